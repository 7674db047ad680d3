"""Lookers: readers that go along a lane with a place of their own and change nothing of it."""

from lanescribe.errors import BadSize
from lanescribe.lanes import place_behind, told_from

MOST_TOLD = 400


class Looker:
    """A reader of one lane, which it keeps itself: what is written later is seen too."""

    def __init__(self, lane):
        self.watched = lane
        self.reached = 0

    def more(self, *, most=MOST_TOLD):
        """What is there from its place on, at most so many things; its place is then behind them."""
        if most < 0:
            raise BadSize(f"{most} things can't be told")
        told = told_from(self.watched.standing(), self.reached)[:most]
        self.reached = place_behind(self.reached, told)
        return told

    def place(self):
        """The place from which it goes on."""
        return self.reached

    def back(self, place=0):
        """Go to a place."""
        if place < 0:
            raise BadSize(f"{place} is no place")
        self.reached = place
