"""Tables: what is laid for the pages of a room, in two steps of eight."""

STEP_PAGES = 8


# A tuple may hold lists: they are copied when laid and when told, so that no asker shares one with the table.
def own_copy(value):
    if isinstance(value, tuple):
        return tuple([own_copy(part) for part in value])
    if isinstance(value, list):
        return [own_copy(part) for part in value]
    if isinstance(value, dict):
        copied = {}
        for key in value:
            copied[key] = own_copy(value[key])
        return copied
    return value


class Table:
    def __init__(self):
        # The first step: from k to the second step's table for the pages 8 * k to 8 * k + 7.
        self.first_step = {}

    def get(self, page):
        second = self.first_step.get(page // STEP_PAGES, {})
        return own_copy(second.get(page))

    def lay(self, page, entry):
        second = self.first_step.setdefault(page // STEP_PAGES, {})
        second[page] = own_copy(entry)

    def clear(self, page):
        k = page // STEP_PAGES
        second = self.first_step.get(k, {})
        if page not in second:
            return
        second.pop(page)
        if len(second) == 0:
            self.first_step.pop(k)

    def pages(self):
        found = []
        for k in self.first_step:
            found.extend(self.first_step[k])
        return sorted(found)

    def steps(self):
        return len(self.first_step)
