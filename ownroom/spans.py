"""Spans: what all makes of rooms have in common, the pages that a deed speaks of and when it is refused.

Here `rooms` is a dict from each task to its room, `mapped` the list of a room's mapped pages.
"""

from ownroom.errors import NoPage, NoRoom, NoTask, Taken
from ownroom.stores import PAGE_CELLS

ROOM_PAGES = 64


def room_of(rooms, task):
    if task not in rooms:
        raise NoTask(f"{task} has no room")
    return rooms[task]


def refuse_second_room(rooms, task):
    if task in rooms:
        raise Taken(f"{task} has a room")


def refuse_above(held, total):
    if held > total:
        raise NoRoom(f"{held} pages are more than {total}")


# Only the ends are looked at: a count of sixty figures could not be walked.
def pages_from(page, many):
    if many < 1 or page < 0 or page + many > ROOM_PAGES:
        raise NoPage(f"{many} from {page} on are no pages of a room")
    return list(range(page, page + many))


def refuse_unmapped(mapped, pages):
    for page in pages:
        if page not in mapped:
            raise NoPage(f"page {page} is not mapped")


def pages_to_map(mapped, page, many):
    pages = pages_from(page, many)
    for wanted in pages:
        if wanted in mapped:
            raise Taken(f"page {wanted} is mapped")
    return pages


def pages_to_drop(mapped, page, many):
    pages = pages_from(page, many)
    refuse_unmapped(mapped, pages)
    return pages


# The pages in which the cells from an address on lie, none where there are no cells, wherever that is.
def pages_of_cells(mapped, address, many):
    if many == 0:
        return []
    if many < 0:
        raise NoPage(f"{many} is no count of cells")
    first = address // PAGE_CELLS
    last = (address + many - 1) // PAGE_CELLS
    pages = pages_from(first, last - first + 1)
    refuse_unmapped(mapped, pages)
    return pages


# Of all cells of the pages of a run, those from its address on.
def run_within(whole, address, many):
    start = address % PAGE_CELLS
    return whole[start:start + many]


# All cells of the pages of a run, with others from its address on, as a list of eight for each page.
def pages_with(whole, address, cells):
    start = address % PAGE_CELLS
    changed = whole[:start] + list(cells) + whole[start + len(cells):]
    return [changed[at:at + PAGE_CELLS] for at in range(0, len(changed), PAGE_CELLS)]
