"""The search for stable candidates, which returns a none paper when there are no more."""

from stablepapers.choices import Choices
from stablepapers.steps import Steps
from stablepapers.tables import Tables


class Split:
    """A split around the steps that are taken at present: its atom (`on`), the value of it, and where its steps begin.

    When the other value has been refuted, `other` is the node for it, and `used` has the atoms on which it rests.
    """

    def __init__(self, atom, value, start, other, used):
        self.on = atom
        self.value = value
        self.start = start
        self.other = other
        self.used = used


class Search:
    """A search in a program that goes from one stable candidate to the next one until all others are refuted.

    `node` is None until then, and the none paper then. It is a paper for the program with the denies that were
    appended meanwhile. The nodes are put together from the inside to the outside, in lists and not in functions that
    call themselves, as there may be as many splits within one another as there are atoms.
    """

    def __init__(self, program):
        _, atoms, rules, costs = program
        self.tables = Tables(rules, len(atoms))
        self.path = Steps(self.tables)
        self.chooser = Choices(self.tables, self.path.counts, costs)
        self.splits = []
        self.used = {}
        self.bounded = []
        self.node = None

    def run(self):
        """Return the next stable candidate, or None if there are no more."""
        while self.node is None:
            step = self.path.run()
            if step is not None:
                self.close(step)
                continue
            choice = self.chooser.choose()
            if choice is None:
                return [atom for atom, value in enumerate(self.path.counts.assigned) if value]
            atom, value = choice
            self.enter(Split(atom, value, len(self.path.trail), None, {}))
        return None

    def enter(self, split):
        self.splits.append(split)
        self.path.decide(split.on, split.value)

    def use(self, atoms):
        """Keep in mind that what is refuted rests on some atoms."""
        self.used.update({atom: True for atom in atoms})

    def steps_needed(self, start):
        """Take back the steps since a place in the trail; return those that are needed, in order."""
        found = []
        while len(self.path.trail) > start:
            step, atoms = self.path.take_back()
            wanted = [atom for atom in atoms if atom in self.used]
            if wanted:
                needed, why = self.path.reasons.needed(step, wanted)
                for atom in wanted:
                    del self.used[atom]
                self.use(why)
                found.append(needed)
        return found[::-1]

    def close(self, step):
        """Refute what has been decided, by a step that clashes; go on with the other value of a split around it."""
        needed, why = self.path.clash(step)
        self.path.forget_events()
        self.used = {}
        self.use(why)
        self.chooser.count_clash(list(self.used))
        node = ([needed], None)
        while self.splits:
            split = self.splits.pop()
            node = (self.steps_needed(split.start + 1) + node[0], node[1])
            self.path.take_back()
            # Without the atom of the split, the node refutes what is around the split.
            if split.on in self.used:
                del self.used[split.on]
                if split.other is None:
                    self.enter(Split(split.on, not split.value, split.start, node, self.used))
                    self.path.counts.ready.extend(self.bounded)
                    return
                self.use(split.used)
                first, second = (node, split.other) if split.value else (split.other, node)
                node = ([], ("split", split.on, first, second))
        self.node = (self.steps_needed(0) + node[0], node[1])

    def refuse(self, body):
        """Append a deny whose body holds in the candidate that was returned last, and in no other one."""
        self.tables.add_closed_rule(("deny", None, body))
        self.close(("fire", len(self.tables.rules) - 1))

    def lower_bound(self, bound):
        """Give the last deny, which has one "least" condition, a bound that it reaches in the last candidate."""
        self.path.counts.lower_bound(self.tables.sums[-1][0], bound)
        # The steps around a split were taken under a higher bound, so the deny is to be looked at there once more.
        self.bounded = [len(self.tables.rules) - 1]


def search(program):
    """Return a stable candidate of a program, or a none paper if there is none."""
    found = Search(program)
    candidate = found.run()
    if candidate is None:
        return ("none", found.node)
    return ("model", candidate)
