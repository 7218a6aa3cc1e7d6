"""A keeper: it does deeds, takes them back, and does them again."""

from orderkeep.deeds import behind
from orderkeep.errors import NoRedo, NoUndo
from orderkeep.houses import EMPTY


class Keeper:
    # None stands for EMPTY, which as a tuple is no plain value for a default.
    def __init__(self, house=None):
        self.now = EMPTY if house is None else house
        self.past = []
        self.undone = []

    def do(self, deed):
        left = behind(self.now, deed)
        self.past.append(self.now)
        self.now = left
        self.undone = []

    def undo(self):
        if len(self.past) == 0:
            raise NoUndo("there is no deed to undo")
        self.undone.append(self.now)
        self.now = self.past.pop()

    def redo(self):
        if len(self.undone) == 0:
            raise NoRedo("there is no deed to do again")
        self.past.append(self.now)
        self.now = self.undone.pop()

    def house(self):
        return self.now
