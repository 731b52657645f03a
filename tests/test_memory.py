import random
import unittest

from lendback.errors import LendError, NotAllocated
from lendback.memory import Memory


class Cells:
    """A memory once more: for each cell the block to which it belongs."""

    def __init__(self):
        self.owners, self.numbers = {}, {}

    def allocate(self, size):
        address = 1
        while any(cell in self.owners for cell in range(address, address + size)):
            address += 1
        for cell in range(address, address + size):
            self.owners[cell], self.numbers[cell] = address, 0
        return address

    def release(self, address):
        if self.owners.get(address) != address:
            raise NotAllocated(address)
        for cell in [cell for cell, owner in self.owners.items() if owner == address]:
            del self.owners[cell], self.numbers[cell]

    def blocks(self):
        owners = list(self.owners.values())
        return [(owner, owners.count(owner)) for owner in sorted(set(owners))]


class Blocks(unittest.TestCase):
    def refuses(self, address, function, *arguments):
        with self.assertRaises(NotAllocated) as caught:
            function(*arguments)
        self.assertEqual(caught.exception.address, address)
        self.assertIsInstance(caught.exception, LendError)

    def test_a_new_memory(self):
        memory = Memory()
        self.assertEqual(memory.blocks(), [])
        for address in (-1, 0, 1, 2, 100):
            self.refuses(address, memory.read, address)
            self.refuses(address, memory.write, address, 5)
            self.refuses(address, memory.release, address)
        self.assertEqual(memory.blocks(), [])

    def test_the_lowest_address_with_room(self):
        memory = Memory()
        self.assertEqual([memory.allocate(size) for size in (2, 1, 3, 1)], [1, 3, 4, 7])
        memory.release(3)
        self.assertEqual(memory.allocate(2), 8)
        self.assertEqual(memory.allocate(1), 3)
        memory.release(1)
        memory.release(4)
        self.assertEqual(memory.blocks(), [(3, 1), (7, 1), (8, 2)])
        self.assertEqual([memory.allocate(size) for size in (3, 3, 1, 1, 1)], [4, 10, 1, 2, 13])
        self.assertEqual(memory.blocks(), [(1, 1), (2, 1), (3, 1), (4, 3), (7, 1), (8, 2), (10, 3), (13, 1)])

    def test_rooms_that_touch(self):
        memory = Memory()
        for size in (2, 2, 2):
            memory.allocate(size)
        memory.release(1)
        memory.release(3)
        self.assertEqual(memory.allocate(5), 7)
        self.assertEqual(memory.allocate(4), 1)
        self.assertEqual(memory.blocks(), [(1, 4), (5, 2), (7, 5)])

    def test_numbers(self):
        memory = Memory()
        address = memory.allocate(3)
        self.assertEqual([memory.read(address + at) for at in range(3)], [0, 0, 0])
        self.assertIsNone(memory.write(address + 1, -2147483648))
        memory.write(address + 2, 2147483647)
        self.assertEqual([memory.read(address + at) for at in range(3)], [0, -2147483648, 2147483647])
        other = memory.allocate(1)
        memory.write(other, 9)
        self.assertIsNone(memory.release(address))
        self.assertEqual(memory.read(other), 9)
        self.assertEqual(memory.allocate(2), address)
        self.assertEqual([memory.read(address + at) for at in range(2)], [0, 0])
        self.refuses(3, memory.read, 3)
        self.refuses(3, memory.write, 3, 1)

    def test_addresses_at_which_no_block_begins(self):
        memory = Memory()
        first, second = memory.allocate(3), memory.allocate(2)
        for address in (first + 1, first + 2, second + 1, second + 2, 0, -1, 99):
            self.refuses(address, memory.release, address)
        self.assertEqual(memory.blocks(), [(1, 3), (4, 2)])
        memory.release(first)
        self.refuses(first, memory.release, first)
        for address in (1, 2, 3, 0, -4, 6):
            self.refuses(address, memory.read, address)
            self.refuses(address, memory.write, address, 1)
        self.assertEqual(memory.blocks(), [(4, 2)])

    def test_two_memories_have_nothing_in_common(self):
        first, second = Memory(), Memory()
        first.write(first.allocate(1), 5)
        self.assertEqual(second.blocks(), [])
        self.assertEqual(second.read(second.allocate(1)), 0)
        second.release(1)
        self.assertEqual((first.blocks(), first.read(1)), ([(1, 1)], 5))

    def test_the_list_of_blocks_is_a_new_one(self):
        memory = Memory()
        memory.allocate(1)
        memory.blocks().clear()
        self.assertEqual(memory.blocks(), [(1, 1)])

    def test_random_memories(self):
        for seed in range(60):
            chance = random.Random(seed)
            memory, cells = Memory(), Cells()
            for _ in range(80):
                address = chance.randint(-1, 30)
                if chance.random() < 0.5:
                    size = chance.randint(1, 5)
                    self.assertEqual(memory.allocate(size), cells.allocate(size))
                elif cells.owners.get(address) == address:
                    memory.release(address)
                    cells.release(address)
                else:
                    self.refuses(address, memory.release, address)
                number = chance.randint(-9, 9)
                if address in cells.numbers:
                    memory.write(address, number)
                    cells.numbers[address] = number
                else:
                    self.refuses(address, memory.write, address, number)
                self.assertEqual(memory.blocks(), cells.blocks())
                self.assertEqual({cell: memory.read(cell) for cell in cells.numbers}, cells.numbers)
