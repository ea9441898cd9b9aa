"""The steps of a none paper, taken and taken back while searching."""

from stablepapers.counts import Counts
from stablepapers.reasons import Reasons
from stablepapers.refuted import denied, settings
from stablepapers.sources import Sources


class Steps:
    """An assignment with the steps that led to it, `trail`: pairs of a step (None for a split) and the atoms it set."""

    def __init__(self, tables):
        self.tables = tables
        self.counts = Counts(tables)
        self.sources = Sources(tables, self.counts)
        self.place = [0] * tables.many
        self.reasons = Reasons(tables, self.counts, self.place)
        self.trail = []
        self.asked = []

    def decide(self, atom, value):
        """Set the atom of a split."""
        self.set_atom(atom, value)
        self.trail.append((None, [atom]))

    def set_atom(self, atom, value):
        self.place[atom] = len(self.trail)
        self.counts.assign(atom, value)
        if value:
            self.asked.append(atom)
        else:
            self.counts.ready.extend(self.tables.rules_of[atom])

    def fire_or_block(self, rule):
        """Return the step of a rule that surely holds, or would but for one condition, if it has an effect, or None."""
        kind, head, _ = self.tables.rules[rule]
        if kind == "choose" or self.counts.failed[rule] > 0:
            return None
        value = False if kind == "deny" else self.counts.assigned[head]
        if self.counts.unsure[rule] == 0 and value is not True:
            return ("fire", rule)
        if self.counts.unsure[rule] == 1 and value is False:
            for place, atom, _ in self.tables.literals[rule]:
                if self.counts.assigned[atom] is None:
                    return ("block", rule, place)
        return None

    def only_step(self, atom):
        """Return the step for a True atom with one rule left, if it has an effect, or None."""
        if self.counts.assigned[atom] is not True or self.counts.support[atom] != 1:
            return None
        for rule in self.tables.rules_of[atom]:
            if self.counts.failed[rule] == 0:
                if any(self.counts.assigned[other] is None for _, other, _ in self.tables.literals[rule]):
                    return ("only", atom, rule)
        return None

    def follow_failures(self):
        """Find out which atoms are to be looked at as rules for them fail now."""
        for rule in self.counts.failing:
            self.sources.suspect_head(rule)
            kind, head, _ = self.tables.rules[rule]
            if kind != "deny":
                self.asked.append(head)
        self.counts.failing.clear()

    def find_step(self):
        """Return a step that sets an undecided atom or clashes, or None if there is none."""
        while self.counts.ready:
            step = self.fire_or_block(self.counts.ready.pop())
            if step is not None:
                return step
        self.follow_failures()
        while self.asked:
            step = self.only_step(self.asked.pop())
            if step is not None:
                return step
        group = self.sources.unfounded()
        return ("unfounded", group) if group else None

    def clashing(self, step):
        """Return an atom whose value is opposite to the one that a step sets, or None."""
        known = {}
        for atom, value in settings(self.tables.rules, step):
            if known.get(atom, self.counts.assigned[atom]) == (not value):
                return atom
            known[atom] = value
        return None

    def take(self, step):
        """Take a step, or return False if it clashes."""
        if denied(self.tables.rules, step) or self.clashing(step) is not None:
            return False
        atoms = []
        for atom, value in settings(self.tables.rules, step):
            if self.counts.assigned[atom] is None:
                self.set_atom(atom, value)
                atoms.append(atom)
        self.trail.append((step, atoms))
        return True

    def run(self):
        """Take steps until there is none left; return None then, or a step that clashes."""
        while True:
            step = self.find_step()
            if step is None or not self.take(step):
                return step

    def clash(self, step):
        """Return what is needed of a step that clashes, and the atoms on which the clash rests."""
        if denied(self.tables.rules, step):
            return self.reasons.needed(step, [])
        atom = self.clashing(step)
        needed, found = self.reasons.needed(step, [atom])
        if self.counts.assigned[atom] is not None:
            found.append(atom)
        return (needed, found)

    def take_back(self):
        """Take back the last step or split; return it and its atoms."""
        step, atoms = self.trail.pop()
        for atom in atoms:
            self.counts.retract(atom)
        return (step, atoms)

    def forget_events(self):
        """Forget what has happened: the steps behind the last split are taken back next."""
        self.counts.forget_events()
        self.sources.suspects.clear()
        self.asked.clear()
