"""Keepers: what is kept beside told tables, and by which questions."""

from withoutloops.errors import NoKeeper
from withoutloops.plans import plan_of


class Keeper:
    """What a text tells: told and kept tables, by which questions these are made anew, an answer, perhaps a wish."""

    def __init__(self, text):
        self.plan = plan_of(text)
        self.text = text
        self.told = self.plan.told
        self.kept = self.plan.kept
        self.has_wish = self.plan.wish is not None

    def __eq__(self, other):
        return isinstance(other, Keeper) and self.text == other.text


def check_keeper(keeper):
    """Refuses what is no Keeper."""
    if not isinstance(keeper, Keeper):
        raise NoKeeper(keeper)
