"""The journal: changes of several blocks of a disk that are made all or not at all.

The blocks 0 and 1 are its head: the count of a commit's blocks, then their
numbers. The blocks from 2 on have their new lists, in the same order. The
count stands in block 0, so that one write of that block begins and ends the
time in which the lists are to be brought to their blocks.
"""

from ownroom.disks import BLOCK_NUMBERS

FIRST_LIST = 2


def commit(disk, changes):
    numbers = sorted(changes)
    # A number that is no block's is refused here: behind the write of the count, each recover would meet it again.
    for n in numbers:
        disk.read(n)
    for k, n in enumerate(numbers):
        disk.write(FIRST_LIST + k, changes[n])
    head = [len(numbers)] + numbers
    head = head + [0] * (2 * BLOCK_NUMBERS - len(head))
    disk.write(1, head[BLOCK_NUMBERS:])
    disk.write(0, head[:BLOCK_NUMBERS])
    recover(disk)


def recover(disk):
    head = disk.read(0) + disk.read(1)
    many = head[0]
    if many == 0:
        return 0
    for k in range(many):
        disk.write(head[1 + k], disk.read(FIRST_LIST + k))
    forget(disk)
    return many


# A commit that fell is brought neither to its end nor to nothing; so this is for disks that are written anew.
def forget(disk):
    disk.write(0, [0] * BLOCK_NUMBERS)
