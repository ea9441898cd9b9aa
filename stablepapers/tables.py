"""Where the atoms of a program stand in its rules, so that what depends on an atom is found at once."""

from stablepapers.variables import distinct


class Tables:
    """The rules of a program, with numbers for the sums of their bodies and for the rows of these sums.

    `literals` has the yes and no conditions of each rule, as the index in the body, the atom and the value with which
    the condition holds; `sums` has the numbers of its sums. `rules_with` and `rows_with` have, for a value and an
    atom, the rules and the rows that need this value of the atom, as often as they do. `rules_of` has the rules that
    may derive an atom, and `awaited_by` those of them that are founded on other atoms, for each of these.
    """

    def __init__(self, rules, many):
        self.rules = []
        self.many = many
        self.literals = []
        self.sums = []
        self.rules_of = [[] for _ in range(many)]
        self.awaited_by = [[] for _ in range(many)]
        self.rules_with = {True: [[] for _ in range(many)], False: [[] for _ in range(many)]}
        self.rows_with = {True: [[] for _ in range(many)], False: [[] for _ in range(many)]}
        self.sum_rule = []
        self.sum_least = []
        self.sum_bound = []
        self.sum_rows = []
        self.rows = []
        self.row_sum = []
        for rule in rules:
            self.add_rule(rule)

    def add_rule(self, rule):
        number = self.add_closed_rule(rule)
        for _, atom, value in self.literals[number]:
            self.rules_with[value][atom].append(number)
        for condition in rule[2]:
            if condition[0] in ("least", "below"):
                self.add_sum(number, condition)
        if rule[0] != "deny":
            self.rules_of[rule[1]].append(number)
            for atom in distinct(self.founding_atoms(number)):
                self.awaited_by[atom].append(number)

    def add_closed_rule(self, rule):
        """Add a rule whose sums and atoms are not followed; return its number."""
        self.rules.append(rule)
        self.literals.append([
            (place, condition[1], condition[0] == "yes") for place, condition in enumerate(rule[2])
            if condition[0] in ("yes", "no")
        ])
        self.sums.append([])
        return len(self.rules) - 1

    def add_sum(self, rule, condition):
        kind, bound, rows = condition
        number = len(self.sum_rule)
        self.sums[rule].append(number)
        self.sum_rule.append(rule)
        self.sum_least.append(kind == "least")
        self.sum_bound.append(bound)
        self.sum_rows.append([])
        for row in rows:
            self.add_row(number, row)

    def add_row(self, number, row):
        _, yes, no = row
        self.sum_rows[number].append(len(self.rows))
        for atom in yes:
            self.rows_with[True][atom].append(len(self.rows))
        for atom in no:
            self.rows_with[False][atom].append(len(self.rows))
        self.rows.append(row)
        self.row_sum.append(number)

    def founding_atoms(self, rule):
        """Return the atoms of which some must be founded before a rule can found its head."""
        found = [atom for _, atom, value in self.literals[rule] if value]
        for number in self.sums[rule]:
            if self.sum_least[number]:
                found.extend([atom for row in self.sum_rows[number] for atom in self.rows[row][1]])
        return found
