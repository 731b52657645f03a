"""Memory: numbered cells, some of which belong to blocks."""

from lendback.errors import NotAllocated


class Memory:
    """A memory without blocks."""

    def __init__(self):
        # The pairs of address and size of the blocks in ascending order, and the numbers in their cells.
        self.rows = []
        self.numbers = {}

    def allocate(self, size):
        """The address of a new block, which is at the lowest one at which there is room."""
        address, at = 1, 0
        while at < len(self.rows) and self.rows[at][0] < address + size:
            address = self.rows[at][0] + self.rows[at][1]
            at += 1
        self.rows.insert(at, (address, size))
        for cell in range(address, address + size):
            self.numbers[cell] = 0
        return address

    def release(self, address):
        """Gives the block back that begins at an address. Raises NotAllocated if none does."""
        found = [at for at, row in enumerate(self.rows) if row[0] == address]
        if not found:
            raise NotAllocated(address)
        _, size = self.rows.pop(found[0])
        for cell in range(address, address + size):
            del self.numbers[cell]

    def read(self, address):
        """The number in a cell. Raises NotAllocated if the cell belongs to no block."""
        if address not in self.numbers:
            raise NotAllocated(address)
        return self.numbers[address]

    def write(self, address, number):
        """Puts a number into a cell. Raises NotAllocated if the cell belongs to no block."""
        if address not in self.numbers:
            raise NotAllocated(address)
        self.numbers[address] = number

    def blocks(self):
        """The list of the pairs of address and size of all blocks, in ascending order."""
        return list(self.rows)
