"""The greatest unfounded list of atoms, kept up to date: each other atom has a rule that founds it."""


class Sources:
    """For each atom that is not False a rule that founds it (`source`), and the atoms that it rests on (`rests`).

    The sources never form a circle. They are not given back when atoms are made undecided again: a rule that founds
    an atom then still does, as it fails under fewer assignments.
    """

    def __init__(self, tables, counts):
        self.tables = tables
        self.counts = counts
        self.source = [None] * tables.many
        self.rests = [{} for _ in range(tables.many)]
        self.suspects = list(range(tables.many))

    def suspect_head(self, rule):
        """Look at the head of a rule at the next time, if the rule is its source."""
        kind, head, _ = self.tables.rules[rule]
        if kind != "deny" and self.source[head] == rule:
            self.suspects.append(head)

    def follow_events(self):
        """Find out which atoms may have lost their source by what has happened."""
        for rule in self.counts.shrunk:
            self.suspect_head(rule)
        self.counts.shrunk.clear()

    def lost_atoms(self):
        """Return a dict of the suspects and of all atoms whose sources rest on them; without False ones."""
        assigned = self.counts.assigned
        queue = list({atom: True for atom in self.suspects if assigned[atom] is not False})
        lost = {atom: True for atom in queue}
        place = 0
        while place < len(queue):
            atom = queue[place]
            place += 1
            for rule in self.tables.awaited_by[atom]:
                head = self.tables.rules[rule][1]
                if self.source[head] == rule and head not in lost and atom in self.rests[head]:
                    if assigned[head] is not False:
                        lost[head] = True
                        queue.append(head)
        return lost

    def sum_basis(self, number, lost):
        """Return atoms on which a "least" condition can rest, none of them lost, or None."""
        basis = {}
        weight = 0
        for row in self.tables.sum_rows[number]:
            if weight >= self.counts.bound[number]:
                break
            yes = self.tables.rows[row][1]
            if self.counts.broken[row] == 0 and not any(atom in lost for atom in yes):
                weight += self.tables.rows[row][0]
                basis.update({atom: True for atom in yes})
        return basis if weight >= self.counts.bound[number] else None

    def basis(self, rule, lost):
        """Return a dict of atoms on which a rule can found its head, none of them lost, or None."""
        if self.counts.failed[rule] > 0:
            return None
        found = {atom: True for _, atom, value in self.tables.literals[rule] if value}
        if any(atom in lost for atom in found):
            return None
        for number in self.tables.sums[rule]:
            if self.tables.sum_least[number]:
                more = self.sum_basis(number, lost)
                if more is None:
                    return None
                found.update(more)
        return found

    def unfounded(self):
        """Return the greatest unfounded list of atoms, ascending; give a source to all others that need one."""
        self.follow_events()
        lost = self.lost_atoms()
        self.suspects = []
        queue = [rule for atom in lost for rule in self.tables.rules_of[atom]]
        place = 0
        while place < len(queue):
            rule = queue[place]
            place += 1
            head = self.tables.rules[rule][1]
            if head in lost:
                found = self.basis(rule, lost)
                if found is not None:
                    del lost[head]
                    self.source[head] = rule
                    self.rests[head] = found
                    queue.extend(self.tables.awaited_by[head])
        return sorted(lost)
