"""On which atom the search splits, and which value it tries first."""

MANY_BETWEEN_HALVINGS = 50


class Choices:
    """Chooses the atoms of splits.

    An atom that a sum leaves only one value for comes first, with the other value, as that is refuted at once.
    Otherwise it is the undecided atom on which the most of the last clashes rested.
    """

    def __init__(self, tables, counts, costs):
        self.tables = tables
        self.counts = counts
        self.rank = [0] * tables.many
        self.halving = 0
        self.uses = [
            sum([len(found[value][atom]) for found in (tables.rules_with, tables.rows_with) for value in (True, False)])
            for atom in range(tables.many)
        ]
        self.gain = [0] * tables.many
        for weight, yes, no in costs:
            for atom in yes:
                self.gain[atom] -= weight
            for atom in no:
                self.gain[atom] += weight

    def count_clash(self, atoms):
        """Count the atoms on which a clash rested; the clashes of long ago count less."""
        for atom in atoms:
            self.rank[atom] += 1000
        self.halving += 1
        if self.halving == MANY_BETWEEN_HALVINGS:
            self.halving = 0
            self.rank = [many // 2 for many in self.rank]

    def open_atoms(self, row):
        """Return the undecided atoms of a row and the values with which it counts, as pairs."""
        _, yes, no = self.tables.rows[row]
        pairs = [(atom, True) for atom in yes] + [(atom, False) for atom in no]
        return [(atom, value) for atom, value in pairs if self.counts.assigned[atom] is None]

    def reaching(self, number):
        """Return an atom and a value with which the rows that surely count reach the bound of a sum, or None."""
        gains = {}
        for row in self.tables.sum_rows[number]:
            if self.counts.missing[row] == 1 and self.counts.broken[row] == 0:
                pair = self.open_atoms(row)[0]
                gains[pair] = gains.get(pair, 0) + self.tables.rows[row][0]
                if self.counts.sure[number] + gains[pair] >= self.counts.bound[number]:
                    return pair
        return None

    def dropping(self, number):
        """Return an atom and a value with which the rows that may count fall below the bound of a sum, or None."""
        losses = {}
        for row in self.tables.sum_rows[number]:
            if self.counts.missing[row] > 0 and self.counts.broken[row] == 0:
                for atom, value in dict(self.open_atoms(row)).items():
                    pair = (atom, not value)
                    losses[pair] = losses.get(pair, 0) + self.tables.rows[row][0]
                    if self.counts.most[number] - losses[pair] < self.counts.bound[number]:
                        return pair
        return None

    def must_not_hold(self, rule):
        """Return whether the one sum that a rule has left must not hold."""
        if self.counts.unsure[rule] != 1 or self.counts.failed[rule] > 0:
            return False
        kind, head, _ = self.tables.rules[rule]
        return kind == "deny" or (kind == "rule" and self.counts.assigned[head] is False)

    def must_hold(self, rule):
        """Return whether all sums of a rule must hold, as no other rule is left for its head."""
        kind, head, _ = self.tables.rules[rule]
        if kind == "deny" or self.counts.failed[rule] > 0 or self.counts.assigned[head] is not True:
            return False
        return self.counts.support[head] == 1

    def wrong_choice(self):
        """Return an atom and a value that a sum refutes at once, or None."""
        for number, rule in enumerate(self.tables.sum_rule):
            least = self.tables.sum_least[number]
            found = None
            if self.counts.sum_holds(number):
                continue
            if self.must_not_hold(rule):
                found = self.reaching(number) if least else self.dropping(number)
            elif self.must_hold(rule):
                found = self.dropping(number) if least else self.reaching(number)
            if found is not None:
                return found
        return None

    def choose(self):
        """Return the atom of the next split and the value to try first, or None if all atoms are decided."""
        assigned = self.counts.assigned
        free = [atom for atom in range(self.tables.many) if assigned[atom] is None]
        if not free:
            return None
        found = self.wrong_choice()
        if found is not None:
            return found
        atom = max(free, key=lambda one: (self.rank[one], self.uses[one], -one))
        return (atom, self.gain[atom] >= 0)
