"""Rules: what numbers in some squares must keep, whether some of them may still be kept, and what they leave out."""

from cluewright.errors import BadRule


class Unlike:
    """All numbers of some squares are unlike."""

    def __init__(self, spots):
        self.spots = check_spots(spots)

    def may(self, values):
        """Tell whether a row of numbers, None for those not known, may still keep it."""
        known = known_of(values)
        return len(set(known)) == len(known)

    def shown(self):
        """Return (kind, squares)."""
        return ("unlike", self.spots)


class Sum:
    """The numbers of some squares are a told number together, none below nought."""

    def __init__(self, spots, whole):
        self.spots = check_spots(spots)
        self.whole = whole

    def may(self, values):
        """Tell whether a row of numbers, None for those not known, may still keep it, by the known ones alone."""
        total = sum(known_of(values))
        if None in values:
            return total <= self.whole
        return total == self.whole

    def shown(self):
        """Return (kind, squares, number)."""
        return ("sum", self.spots, self.whole)


class Less:
    """The number of a square is less than another's."""

    def __init__(self, one, other):
        self.spots = check_spots((one, other))

    def may(self, values):
        """Tell whether a row of two numbers, None for those not known, may still keep it."""
        return None in values or values[0] < values[1]

    def shown(self):
        """Return (kind, squares)."""
        return ("less", self.spots)


class Gap:
    """The numbers of two squares differ by a told number."""

    def __init__(self, one, other, much):
        if much < 0:
            raise BadRule("numbers don't differ by less than nought")
        self.spots = check_spots((one, other))
        self.much = much

    def may(self, values):
        """Tell whether a row of two numbers, None for those not known, may still keep it."""
        return None in values or abs(values[0] - values[1]) == self.much

    def shown(self):
        """Return (kind, squares, number)."""
        return ("gap", self.spots, self.much)


class Tops:
    """From a row's first square on, so many numbers are greater than all ahead of them."""

    def __init__(self, spots, count):
        self.spots = check_spots(spots)
        self.count = count

    def may(self, values):
        """Tell whether a row of numbers, None for those not known, may still keep it: told when all are known."""
        return None in values or tops(values) == self.count

    def shown(self):
        """Return (kind, squares, count)."""
        return ("tops", self.spots, self.count)


class Runs:
    """The runs of ones in a row of noughts and ones are as long as told, in order."""

    def __init__(self, spots, runs):
        self.spots = check_spots(spots)
        self.runs = tuple(runs)
        if any([run < 1 for run in self.runs]) or sum(self.runs) + max(0, len(self.runs) - 1) > len(self.spots):
            raise BadRule("the runs don't fit in the squares")

    def may(self, values):
        """Tell whether a row of noughts and ones, None for those not known, may still keep it."""
        if None not in values:
            return runs_of(values) == self.runs
        return may_begin_with(self.runs, ahead_of_unknown(values))

    def shown(self):
        """Return (kind, squares, runs)."""
        return ("runs", self.spots, self.runs)


class Count:
    """So many of some squares have a told number."""

    def __init__(self, spots, value, count):
        self.spots = check_spots(spots)
        self.value = value
        self.count = count

    def may(self, values):
        """Tell whether a row of numbers, None for those not known, may still keep it."""
        here = len([one for one in values if one == self.value])
        left = len([one for one in values if one is None])
        return here <= self.count <= here + left

    def shown(self):
        """Return (kind, squares, number, count)."""
        return ("count", self.spots, self.value, self.count)


def check_spots(spots):
    """Return squares, one or more, each once; BadRule."""
    found = tuple(spots)
    if found == () or len(set(found)) != len(found):
        raise BadRule("a rule has one square or more, each once")
    return found


def known_of(values):
    """Return the numbers of a row that are known."""
    return [value for value in values if value is not None]


def ahead_of_unknown(values):
    """Return the numbers of a row up to the first that isn't known, where there is one."""
    row = list(values)
    return row[:row.index(None)]


def tops(values):
    """Return how many numbers are greater than all ahead of them."""
    return len([at for at, value in enumerate(values) if all([one < value for one in values[:at]])])


def runs_of(values):
    """Return how long the runs of ones in a row of noughts and ones are, in order."""
    runs = []
    long = 0
    for value in values:
        if value == 1:
            long += 1
        elif long > 0:
            runs.append(long)
            long = 0
    if long > 0:
        runs.append(long)
    return tuple(runs)


def may_begin_with(runs, known):
    """Tell whether a row with runs may begin with known noughts and ones."""
    found = runs_of(known)
    if len(found) > len(runs):
        return False
    if known != [] and known[-1] == 1:
        # The last run may go on behind what is known.
        return found[:-1] == runs[:len(found) - 1] and found[-1] <= runs[len(found) - 1]
    return found == runs[:len(found)]


def kept(rule, table):
    """Tell whether a table of squares to numbers keeps a rule wholly."""
    values = [table.get(spot) for spot in rule.spots]
    return None not in values and rule.may(values)
