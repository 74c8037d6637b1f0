"""The walk along a row, from what is done ahead of a stand to what is done behind it, all by numbers of tasks."""

from stationrow.fillings import greatest_numbers, has_all, is_filling_number, rules_of
from stationrow.sets import number_of, tasks_of
from stationrow.texts import names_of


def parts_of(number):
    """The numbers of all sets of a number's tasks, rising."""
    parts = [0]
    worth = 1
    while worth <= number:
        if has_all(number, worth):
            parts = parts + [part + worth for part in parts]
        worth = worth * 2
    return parts


class Walk:
    """A works and a beat, and what is asked of them at each stand and for each done."""

    def __init__(self, works, beat):
        self.works = works
        self.beat = beat
        self.rules = rules_of(works)
        self.whole = number_of(works, names_of(works[0]))

    def fillings_at(self, stand, done):
        """All fillings at the row's stand of this number, from 0, for a done, rising."""
        # Beyond the row there is no stand, so not even the filling without tasks.
        if stand >= len(self.works[3]):
            return []
        kind = self.works[3][stand]
        left = parts_of(self.whole - done)
        return [number for number in left if is_filling_number(self.rules, self.beat, kind, done, number)]

    def greatest_at(self, stand, done):
        """The greatest fillings at a stand for a done, rising."""
        return greatest_numbers(self.fillings_at(stand, done))

    def load_at(self, number):
        """The lengths of a number's tasks together."""
        return sum([rule[1] for rule in self.rules if has_all(number, rule[0])])

    def dealing_of(self, fillings):
        """The dealing that has each stand's filling of these."""
        return tuple([tasks_of(self.works, filling) for filling in fillings])
