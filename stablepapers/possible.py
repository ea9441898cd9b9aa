"""The possible atoms, and the plain rules that matter."""

from stablepapers.matches import Matches, matched
from stablepapers.plain import body_of, bound_rules, bounds_fit, choice_instance, choice_instances, chosen_rule
from stablepapers.plain import conditions_of, global_variables, head_of, local_variables, plain_body
from stablepapers.plans import atom_step, plan
from stablepapers.terms import atom_instance, conditions_instance
from stablepapers.universe import universe
from stablepapers.variables import atom_variables, distinct


def yes_atoms(body):
    """Return the different yes atoms of a body."""
    return distinct([condition[1] for condition in body if condition[0] == "yes"])


def possible_atoms(rules):
    """Return a dict whose keys are the possible atoms of a list of rules."""
    missing = [len(yes_atoms(body)) for _, _, body in rules]
    waiting = {}
    for number, (_, _, body) in enumerate(rules):
        for atom in yes_atoms(body):
            waiting.setdefault(atom, []).append(number)
    queue = [number for number, many in enumerate(missing) if many == 0]
    found = {}
    place = 0
    while place < len(queue):
        kind, head, _ = rules[queue[place]]
        place += 1
        if kind != "deny" and head not in found:
            found[head] = True
            for number in waiting.get(head, []):
                missing[number] -= 1
                if missing[number] == 0:
                    queue.append(number)
    return found


class Pattern:
    """What is matched to find plain rules: the conditions of a body, and those of one choice where there is one."""

    def __init__(self, variables, head, conditions, body):
        self.variables = variables
        self.head = head
        self.conditions = conditions
        self.body = body
        self.atoms = [condition[1] for condition in conditions if condition[0] == "yes"]
        self.comparisons = [condition for condition in conditions if condition[0] == "compare"]

    def steps(self, rest, known):
        """Return the steps that match some of the yes atoms and all comparisons."""
        return plan(rest, self.comparisons, self.variables, known)

    def fits(self, names, constants):
        """Return whether there is a plain rule under a substitution of all variables."""
        if conditions_instance(self.conditions, names, constants) is None:
            return False
        if self.head is not None and atom_instance(self.head, names, constants) is None:
            return False
        return bounds_fit(self.body, names)


def patterns_of(statement):
    """Return the patterns of a statement: for a choose one for each choice, and one for its bounds."""
    kind = statement[0]
    if kind in ("range", "minimize"):
        return []
    names = global_variables(statement)
    body = body_of(statement)
    conditions = conditions_of(body)
    if kind != "choose":
        return [Pattern(names, head_of(statement), conditions, body)]
    patterns = [
        Pattern(names + local_variables(choice, names), choice[1], conditions + choice[2], body)
        for choice in statement[2]
    ]
    if statement[1] is not None or statement[3] is not None:
        patterns.append(Pattern(names, None, conditions, body))
    return patterns


class Matcher:
    """Finds the substitutions of patterns under which all yes atoms are possible, and the possible atoms with them.

    For each pattern `found` has a dict whose keys are such substitutions: the places in the universe of the constants
    of its variables.
    """

    def __init__(self, patterns, constants):
        self.patterns = patterns
        self.constants = constants
        self.found = [{} for _ in patterns]
        self.matches = Matches(constants)
        self.queue = []
        self.queued = {}
        self.triggers = {}
        for number, pattern in enumerate(patterns):
            for atom in pattern.atoms:
                self.add_trigger(number, atom)

    def add_trigger(self, number, atom):
        """Keep what is to be done with a pattern when an atom is found that may be this one of its yes atoms."""
        pattern = self.patterns[number]
        rest = [other for other in pattern.atoms if other != atom]
        steps = pattern.steps(rest, atom_variables(atom))
        self.triggers.setdefault((atom[1], len(atom[2])), []).append((number, atom_step(atom, []), steps))

    def record(self, number, names):
        """Keep a substitution of a pattern, and its head for a later turn."""
        pattern = self.patterns[number]
        key = tuple([self.constants[names[name]] for name in pattern.variables])
        if key in self.found[number] or not pattern.fits(names, self.constants):
            return
        self.found[number][key] = True
        if pattern.head is not None:
            atom = atom_instance(pattern.head, names, self.constants)
            if atom not in self.queued:
                self.queued[atom] = True
                self.queue.append(atom)

    def record_all(self, number, steps, start):
        for names in self.matches.after_steps(steps, start):
            self.record(number, names)

    def take(self, atom):
        """Match an atom with each yes atom of a pattern, and the rest of it with the atoms found so far."""
        self.matches.keep(atom)
        for number, step, steps in self.triggers.get((atom[0], len(atom[1])), []):
            for start in matched(step, atom, {}, self.constants):
                self.record_all(number, steps, start)

    def run(self):
        for number, pattern in enumerate(self.patterns):
            if not pattern.atoms:
                self.record_all(number, pattern.steps([], []), {})
        place = 0
        while place < len(self.queue):
            self.take(self.queue[place])
            place += 1


def pattern_rules(statement, place, names, body, constants):
    """Return the plain rules of one of the patterns of a statement, from the plain body of the statement."""
    kind = statement[0]
    if kind == "deny":
        return [(kind, None, body)]
    if kind == "rule":
        return [(kind, atom_instance(statement[1], names, constants), body)]
    choices = statement[2]
    if place < len(choices):
        return [chosen_rule(choice_instance(choices[place], names, constants), body)]
    return bound_rules(statement, choice_instances(choices, names, constants), body)


def named_constants(variables, key, listed):
    """Return the substitution of some variables whose key has the places of their constants in a list."""
    return {name: listed[place] for name, place in zip(variables, key)}


def found_rules(statement, patterns, found, constants):
    """Return the plain rules of a statement for what was found for its patterns, in the order of the plain rules."""
    listed = list(constants)
    first = global_variables(statement)
    many = len(first)
    # The keys have the places of the constants in the universe, so sorting gives the order of the substitutions.
    entries = sorted([(key[:many], place, key[many:]) for place, keys in enumerate(found) for key in keys])
    rules = []
    last, body = None, []
    for outer, place, inner in entries:
        if outer != last:
            last = outer
            body = plain_body(body_of(statement), named_constants(first, outer, listed), constants)
        names = named_constants(patterns[place].variables, outer + inner, listed)
        rules.extend(pattern_rules(statement, place, names, body, constants))
    return rules


def matching(statements):
    """Return the list of the plain rules that matter, in the order of the plain rules."""
    constants = {constant: place for place, constant in enumerate(universe(statements))}
    groups = [patterns_of(statement) for statement in statements]
    matcher = Matcher([pattern for patterns in groups for pattern in patterns], constants)
    matcher.run()
    rules = []
    begin = 0
    for statement, patterns in zip(statements, groups):
        end = begin + len(patterns)
        rules.extend(found_rules(statement, patterns, matcher.found[begin:end], constants))
        begin = end
    return rules
