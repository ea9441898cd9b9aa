"""What an assignment decides about the rules of a program, kept up to date atom by atom."""


class Counts:
    """An assignment, and what it decides, as counts.

    For each rule there are the numbers of its conditions that do not surely hold (`unsure`) and that surely fail
    (`failed`). For each row there are the numbers of its atoms that do not have the value that it needs (`missing`),
    and that have the other value (`broken`). For each sum there are the weights of the rows that surely count
    (`sure`) and that may count (`most`). For each atom there is the number of the rules that may derive it and do not
    surely fail (`support`).

    Whoever uses the counts takes from these lists what has happened: `ready` has the rules with at most one condition
    left, `failing` those that surely fail now, and `shrunk` those of "least" conditions with a row less.
    """

    def __init__(self, tables):
        self.tables = tables
        self.assigned = [None] * tables.many
        self.missing = [len(yes) + len(no) for _, yes, no in tables.rows]
        self.broken = [0] * len(tables.rows)
        self.bound = list(tables.sum_bound)
        self.sure = [0] * len(self.bound)
        self.most = [0] * len(self.bound)
        for row, number in enumerate(tables.row_sum):
            weight = tables.rows[row][0]
            self.most[number] += weight
            if self.missing[row] == 0:
                self.sure[number] += weight
        self.unsure = [len(body) for _, _, body in tables.rules]
        self.failed = [0] * len(tables.rules)
        self.support = [len(rules) for rules in tables.rules_of]
        self.ready = []
        self.failing = []
        self.shrunk = []
        for number in range(len(self.bound)):
            if self.sum_holds(number):
                self.unsure[tables.sum_rule[number]] -= 1
            if self.sum_fails(number):
                self.fail(tables.sum_rule[number])
        self.ready.extend([rule for rule, many in enumerate(self.unsure) if many < 2])

    def sum_holds(self, number):
        """Return whether the condition of a sum surely holds."""
        if self.tables.sum_least[number]:
            return self.sure[number] >= self.bound[number]
        return self.most[number] < self.bound[number]

    def sum_fails(self, number):
        """Return whether the condition of a sum surely fails."""
        if self.tables.sum_least[number]:
            return self.most[number] < self.bound[number]
        return self.sure[number] >= self.bound[number]

    def hold(self, rule):
        """Count a condition of a rule that surely holds now."""
        self.unsure[rule] -= 1
        if self.unsure[rule] < 2:
            self.ready.append(rule)

    def fail(self, rule):
        """Count a condition of a rule that surely fails now."""
        self.failed[rule] += 1
        if self.failed[rule] == 1:
            self.failing.append(rule)
            kind, head, _ = self.tables.rules[rule]
            if kind != "deny":
                self.support[head] -= 1

    def unfail(self, rule):
        """Count a condition of a rule that does not surely fail any longer."""
        self.failed[rule] -= 1
        if self.failed[rule] == 0:
            kind, head, _ = self.tables.rules[rule]
            if kind != "deny":
                self.support[head] += 1

    def assign(self, atom, value):
        """Decide an atom."""
        self.assigned[atom] = value
        tables = self.tables
        for rule in tables.rules_with[value][atom]:
            self.hold(rule)
        for rule in tables.rules_with[not value][atom]:
            self.fail(rule)
        for row in tables.rows_with[value][atom]:
            self.missing[row] -= 1
            if self.missing[row] == 0:
                self.add_sure(tables.row_sum[row], tables.rows[row][0])
        for row in tables.rows_with[not value][atom]:
            self.broken[row] += 1
            if self.broken[row] == 1:
                self.take_most(tables.row_sum[row], tables.rows[row][0])

    def add_sure(self, number, weight):
        """Count a row that surely counts now."""
        before = self.sure[number]
        self.sure[number] = before + weight
        if before < self.bound[number] <= before + weight:
            if self.tables.sum_least[number]:
                self.hold(self.tables.sum_rule[number])
            else:
                self.fail(self.tables.sum_rule[number])

    def take_most(self, number, weight):
        """Count a row that cannot count any longer."""
        after = self.most[number] - weight
        self.most[number] = after
        if self.tables.sum_least[number]:
            self.shrunk.append(self.tables.sum_rule[number])
        if after < self.bound[number] <= after + weight:
            if self.tables.sum_least[number]:
                self.fail(self.tables.sum_rule[number])
            else:
                self.hold(self.tables.sum_rule[number])

    def retract(self, atom):
        """Make a decided atom undecided again."""
        value = self.assigned[atom]
        self.assigned[atom] = None
        tables = self.tables
        for rule in tables.rules_with[value][atom]:
            self.unsure[rule] += 1
        for rule in tables.rules_with[not value][atom]:
            self.unfail(rule)
        for row in tables.rows_with[value][atom]:
            if self.missing[row] == 0:
                self.take_sure(tables.row_sum[row], tables.rows[row][0])
            self.missing[row] += 1
        for row in tables.rows_with[not value][atom]:
            self.broken[row] -= 1
            if self.broken[row] == 0:
                self.add_most(tables.row_sum[row], tables.rows[row][0])

    def take_sure(self, number, weight):
        """Count a row that does not surely count any longer."""
        after = self.sure[number] - weight
        self.sure[number] = after
        if after < self.bound[number] <= after + weight:
            if self.tables.sum_least[number]:
                self.unsure[self.tables.sum_rule[number]] += 1
            else:
                self.unfail(self.tables.sum_rule[number])

    def add_most(self, number, weight):
        """Count a row that may count again."""
        before = self.most[number]
        self.most[number] = before + weight
        if before < self.bound[number] <= before + weight:
            if self.tables.sum_least[number]:
                self.unfail(self.tables.sum_rule[number])
            else:
                self.unsure[self.tables.sum_rule[number]] += 1

    def lower_bound(self, number, bound):
        """Give a "least" condition of a deny a lower bound."""
        rule = self.tables.sum_rule[number]
        held, failed = self.sum_holds(number), self.sum_fails(number)
        self.bound[number] = bound
        if self.sum_holds(number) and not held:
            self.hold(rule)
        if failed and not self.sum_fails(number):
            self.unfail(rule)

    def forget_events(self):
        """Empty the lists of what has happened."""
        self.ready.clear()
        self.failing.clear()
        self.shrunk.clear()
