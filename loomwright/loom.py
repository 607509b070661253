"""A loom that weaves a draft pick by pick, with one fault or none."""

from loomwright.cloth import Cloth
from loomwright.errors import BadDraft, OutOfPlace
from loomwright.faults import is_fault
from loomwright.gear import Gear


class Loom:
    def __init__(self, draft, fault=None):
        if fault is not None and not is_fault(draft, fault):
            raise BadDraft("a loom has a fault of its draft, or None")
        self.gear = Gear(draft, fault)
        self.width = draft.ends()
        self.treading = draft.treading
        self.done = []

    def step(self):
        if len(self.done) == len(self.treading):
            return None
        row = self.gear.row_of(self.treading[len(self.done)])
        self.done.append(row)
        return row

    def pick(self):
        return len(self.done)

    def cloth(self):
        if len(self.done) == 0:
            raise OutOfPlace("ahead of the first step there is no cloth")
        return Cloth(self.width, self.done)


def woven_with(draft, fault):
    loom = Loom(draft, fault)
    while loom.step() is not None:
        pass
    return loom.cloth()
