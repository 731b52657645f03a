"""Lendback: a borrow checker, and two machines that agree."""
