"""The greatest worth of amounts under limits, reckoned exactly: the simplex method in whole numbers."""


class Tableau:
    """Equations of amounts and what is left of limits, in whole numbers over one bottom.

    There is an amount for each weight, and for each limit what is left of it; all are numbered, the amounts
    first. Those named in down have a row each and are told by the last number of their row; those named in
    across have a column each and are nought.
    """

    def __init__(self, weights, limits):
        things = len(weights)
        self.bottom = 1
        self.across = list(range(things))
        self.down = list(range(things, things + len(limits)))
        self.rows = [[*numbers, most] for numbers, most in limits]
        self.goal = [-weight for weight in weights] + [0]

    def entering(self):
        """The column whose amount makes the worth grow, the one with the least number; or None."""
        names = [name for name, number in zip(self.across, self.goal) if number < 0]
        return self.across.index(min(names)) if names else None

    def leaving(self, column):
        """The row that is the first to come to nought as the column's amount grows."""
        best = None
        for at, row in enumerate(self.rows):
            if row[column] > 0 and (best is None or self.sooner(at, best, column)):
                best = at
        return best

    def sooner(self, at, best, column):
        """Whether one row comes to nought ahead of another one, or with it and has the lesser number."""
        row = self.rows[at]
        other = self.rows[best]
        mine = row[-1] * other[column]
        yours = other[-1] * row[column]
        # With the least number here and in entering (Bland's rule) the steps never go round in a ring.
        return mine < yours or (mine == yours and self.down[at] < self.down[best])

    def exchange(self, at, column):
        """Let the row's and the column's amounts change places."""
        pivot_row = self.rows[at]
        rows = [self.cleared(row, pivot_row, column) for row in self.rows]
        rows[at] = list(pivot_row)
        rows[at][column] = self.bottom
        self.goal = self.cleared(self.goal, pivot_row, column)
        self.rows = rows
        self.bottom = pivot_row[column]
        self.down[at], self.across[column] = self.across[column], self.down[at]

    def cleared(self, row, pivot_row, column):
        """Another row once the pivot row is taken from it so often that the column's amount is gone."""
        pivot = pivot_row[column]
        factor = row[column]
        # These divisions leave no rest: all numbers are determinants of the first tableau.
        told = [(number * pivot - factor * other) // self.bottom for number, other in zip(row, pivot_row)]
        told[column] = -factor
        return told

    def amounts(self):
        """The tops of all amounts."""
        told = [0] * len(self.across)
        for name, row in zip(self.down, self.rows):
            if name < len(told):
                told[name] = row[-1]
        return told

    def shares(self):
        """The tops of the limits' shares."""
        told = [0] * len(self.down)
        for name, top in zip(self.across, self.goal):
            if name >= len(self.across):
                told[name - len(self.across)] = top
        return told


def greatest(weights, limits):
    """The greatest worth, amounts that have it, and the limits' shares, all as tops; and their one bottom.

    The worth is the sum of the weights times their amounts, which are from nought on. Limits are tuples
    (numbers, most), most from nought on: the sum of the numbers times the amounts is to be no more than most.
    Each weight above nought must be held by some limit. The limits' numbers, each taken its share times, come to
    no less than the weights, and their mosts, taken so, to the worth: so none is greater.
    """
    tableau = Tableau(weights, limits)
    column = tableau.entering()
    while column is not None:
        tableau.exchange(tableau.leaving(column), column)
        column = tableau.entering()
    return (tableau.goal[-1], tableau.amounts(), tableau.shares(), tableau.bottom)
