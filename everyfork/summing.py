"""Sums found: least facts that come together to a plain number below 0."""


def least_forms(facts):
    """The forms of the least facts of a list, by their numbers."""
    told = {}
    for number, fact in enumerate(facts):
        if fact[0] == "least":
            told[number] = fact[1]
    return told


def signs_in(forms):
    """For each thing in forms whether it stands there with times above 0, and whether with times below."""
    told = {}
    for form in forms:
        for thing, often in form[1]:
            ahead = told.get(thing, (False, False))
            told[thing] = (ahead[0] or often > 0, ahead[1] or often < 0)
    return told


def useful(forms):
    """The forms, by their numbers, without those that no sum can have."""
    # A thing that never stands with the other sign can't go out of a sum: then neither can its forms be in one.
    while True:
        signs = signs_in(list(forms.values()))
        told = {}
        for number, form in forms.items():
            if all([signs[pair[0]] == (True, True) for pair in form[1]]):
                told[number] = form
        if len(told) == len(forms):
            return told
        forms = told


def common(numbers):
    """The greatest whole number that goes into all of some numbers above 0."""
    told = 0
    for number in numbers:
        other = number
        while other != 0:
            rest = told % other
            told = other
            other = rest
    return told


class Table:
    """Rows of whole numbers over columns: in each row its own column and so many times the others come to 0.

    All stand divisor times, so that nothing has to be divided but what goes up. The last row tells what a sum is
    below 0, so many times each column; all others say that a thing goes out of the sum.
    """

    def __init__(self, forms):
        placed = {}
        for form in forms:
            for pair in form[1]:
                placed.setdefault(pair[0], len(placed))
        self.cells = [[0 for form in forms] for thing in range(len(placed) + 1)]
        for column, form in enumerate(forms):
            for thing, often in form[1]:
                self.cells[placed[thing]][column] = often
            self.cells[-1][column] = form[0]
        self.divisor = 1
        self.own = {}

    def pivot(self, row, column):
        """Give a row a column as its own: it goes out of all other rows."""
        told = self.cells[row]
        turned = told[column]
        changed = []
        for cells in self.cells:
            often = cells[column]
            changed.append([(turned * x - often * y) // self.divisor for x, y in zip(cells, told)])
        changed[row] = told
        self.cells = changed
        self.divisor = turned
        if turned < 0:
            self.cells = [[-x for x in cells] for cells in self.cells]
            self.divisor = -turned
        self.own[row] = column

    def begin(self):
        """Give each row of a thing a column, where it has one left."""
        for row in range(len(self.cells) - 1):
            for column, number in enumerate(self.cells[row]):
                if number != 0:
                    self.pivot(row, column)
                    break

    def entering(self):
        """The first column that would bring the sum further below 0, or None."""
        for column, number in enumerate(self.cells[-1]):
            if number < 0:
                return column
        return None

    def leaving(self, column):
        """Of the rows that hold a column back that whose own column is the first, or None."""
        rows = [row for row in self.own if self.cells[row][column] > 0]
        return min(rows, key=lambda row: self.own[row], default=None)

    def found(self):
        """A dict from columns to times that bring the sum below 0, or None where there are none."""
        self.begin()
        # Always the first column and the first row: so no table comes twice.
        column = self.entering()
        while column is not None:
            row = self.leaving(column)
            if row is None:
                told = {column: self.divisor}
                for other, own in self.own.items():
                    told[own] = -self.cells[other][column]
                return told
            self.pivot(row, column)
            column = self.entering()
        return None


def summed(facts):
    """A step sum that is right for a list of facts, or None where there is none."""
    forms = useful(least_forms(facts))
    numbers = list(forms)
    found = Table(list(forms.values())).found()
    if found is None:
        return None
    often = [(numbers[column], found[column]) for column in sorted(found) if found[column] > 0]
    shared = common([pair[1] for pair in often])
    return ("sum", tuple([(number, here // shared) for number, here in often]))
