"""On which decided atoms a step rests, so that steps and splits that nothing rests on can be left out of a paper."""


class Reasons:
    """Finds reasons under the assignment of the counts; `place` tells for each decided atom when it was decided.

    Where there is a choice, what was decided earlier is taken: so more of the splits can be left out.
    """

    def __init__(self, tables, counts, place):
        self.tables = tables
        self.counts = counts
        self.place = place

    def latest(self, atoms):
        """Return the place of the atom that was decided last; what rests on no atom comes before all places."""
        return max([self.place[atom] for atom in atoms], default=-1)

    def breaker(self, row):
        """Return the earliest atom with a value with which a row cannot count."""
        _, yes, no = self.tables.rows[row]
        assigned = self.counts.assigned
        found = [atom for atom in yes if assigned[atom] is False] + [atom for atom in no if assigned[atom] is True]
        return min(found, key=lambda atom: self.place[atom])

    def raised(self, number):
        """Return atoms by which the rows of a sum that surely count reach its bound."""
        rows = [row for row in self.tables.sum_rows[number] if self.counts.missing[row] == 0]
        entries = sorted([(self.latest(self.row_atoms(row)), row) for row in rows])
        found = []
        weight = 0
        for _, row in entries:
            if weight >= self.counts.bound[number]:
                break
            weight += self.tables.rows[row][0]
            found.extend(self.row_atoms(row))
        return found

    def row_atoms(self, row):
        _, yes, no = self.tables.rows[row]
        return list(yes + no)

    def lowered(self, number, group):
        """Return atoms by which the rows of a sum without a yes atom in a group stay below its bound."""
        rows = [
            row for row in self.tables.sum_rows[number] if not any(atom in group for atom in self.tables.rows[row][1])
        ]
        left = sum([self.tables.rows[row][0] for row in rows])
        breakers = [(row, self.breaker(row)) for row in rows if self.counts.broken[row] > 0]
        found = []
        for _, row, atom in sorted([(self.place[atom], row, atom) for row, atom in breakers]):
            if left < self.counts.bound[number]:
                break
            left -= self.tables.rows[row][0]
            found.append(atom)
        return found

    def sum_holding(self, number):
        """Return atoms by which the condition of a sum surely holds."""
        return self.raised(number) if self.tables.sum_least[number] else self.lowered(number, {})

    def sum_failing(self, number):
        """Return atoms by which the condition of a sum surely fails."""
        return self.lowered(number, {}) if self.tables.sum_least[number] else self.raised(number)

    def why_holding(self, rule, but):
        """Return atoms by which all conditions of a rule surely hold, but the one with a certain index."""
        found = [atom for place, atom, _ in self.tables.literals[rule] if place != but]
        for number in self.tables.sums[rule]:
            found.extend(self.sum_holding(number))
        return found

    def why_failing(self, rule):
        """Return atoms by which a rule surely fails."""
        wrong = [atom for _, atom, value in self.tables.literals[rule] if self.counts.assigned[atom] == (not value)]
        choices = [[atom] for atom in wrong]
        choices.extend([self.sum_failing(number) for number in self.tables.sums[rule] if self.counts.sum_fails(number)])
        return min(choices, key=lambda atoms: self.latest(atoms))

    def fire(self, rule):
        """Return atoms on which it rests that a rule fires."""
        return self.why_holding(rule, None)

    def block(self, rule, but):
        """Return atoms on which a block step rests."""
        kind, head, _ = self.tables.rules[rule]
        return self.why_holding(rule, but) + ([head] if kind == "rule" else [])

    def only(self, atom, rule):
        """Return atoms on which an only step rests."""
        found = [atom]
        for other in self.tables.rules_of[atom]:
            if other != rule:
                found.extend(self.why_failing(other))
        return found

    def row_blockers(self, number, group):
        """Return for each row of a sum that has yes atoms in a group the first one of them."""
        found = []
        for row in self.tables.sum_rows[number]:
            inside = [atom for atom in self.tables.rows[row][1] if atom in group]
            found.extend(inside[:1])
        return found

    def sum_cut(self, rule, group):
        """Return the same as `cut` for a rule that is cut off by a "least" condition alone."""
        for number in self.tables.sums[rule]:
            if self.tables.sum_least[number]:
                if self.weight_left(number, group) < self.counts.bound[number]:
                    return (self.row_blockers(number, group), self.lowered(number, group))
        return ([], [])

    def weight_left(self, number, group):
        """Return the weight of the rows of a sum that may count and have no yes atom in a group."""
        return sum([
            self.tables.rows[row][0] for row in self.tables.sum_rows[number]
            if self.counts.broken[row] == 0 and not any(atom in group for atom in self.tables.rows[row][1])
        ])

    def cut(self, rule, inside, group):
        """Return the atoms of an unfounded group, and the decided atoms, by which a rule is cut off.

        What is already among the atoms inside is not returned.
        """
        yes = [atom for _, atom, value in self.tables.literals[rule] if value]
        if any(atom in inside for atom in yes):
            return ([], [])
        if self.counts.failed[rule] > 0:
            return ([], self.why_failing(rule))
        within = [atom for atom in yes if atom in group]
        if within:
            return (within[:1], [])
        return self.sum_cut(rule, group)

    def unfounded(self, wanted, group):
        """Return a part of an unfounded group that has the wanted atoms and is unfounded by itself, and its reasons."""
        inside = {atom: True for atom in wanted}
        queue = list(wanted)
        found = []
        place = 0
        while place < len(queue):
            rules = self.tables.rules_of[queue[place]]
            place += 1
            for rule in rules:
                more, why = self.cut(rule, inside, group)
                found.extend(why)
                for atom in more:
                    if atom not in inside:
                        inside[atom] = True
                        queue.append(atom)
        return (sorted(inside), found)

    def needed(self, step, wanted):
        """Return what is needed of a step for the wanted atoms that it sets, and the atoms on which that rests."""
        kind = step[0]
        if kind == "fire":
            return (step, self.fire(step[1]))
        if kind == "block":
            return (step, self.block(step[1], step[2]))
        if kind == "only":
            return (step, self.only(step[1], step[2]))
        atoms, found = self.unfounded(wanted, {atom: True for atom in step[1]})
        return (("unfounded", atoms), found)
