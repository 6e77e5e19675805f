"""Machines: the patterns of some rules, read name by name and all at once.

A state of a machine is the number of ignorelines/tracks.py for the patterns: it
tells the stages of all rules. A situation is the one for the parts.
"""

from ignorelines.paths import SIGNS, names_of
from ignorelines.tracks import Track, closed, moved, places_of


class Machine:
    """What is needed to read names and paths by some rules."""

    def __init__(self, rules):
        patterns = Track([rule.pattern.split("/") for rule in rules], "**")
        texts = list(patterns.places)
        parts = Track(texts, "*")
        anywhere = parts.places.get("?", 0)
        self.patterns = patterns
        self.parts = parts
        # Bits of different rows or places are different, so that their sums join them.
        self.uses = [(end, patterns.places[text]) for end, text in zip(parts.ends, texts)]
        self.sign_hits = {sign: parts.places.get(sign, 0) | anywhere for sign in SIGNS}
        self.blank = closed(parts, sum(parts.starts))
        self.begin = closed(patterns, sum(patterns.starts))
        self.fresh = sum([start for rule, start in zip(rules, patterns.starts) if not rule.anchored])
        self.ignoring = sum([end for rule, end in zip(rules, patterns.ends) if not rule.again])
        self.for_files = sum([end for rule, end in zip(rules, patterns.ends) if not rule.directories])


def next_situation(machine, situation, sign):
    """The situation after one more sign of a name."""
    return moved(machine.parts, situation, machine.sign_hits[sign], 0)


def hits_of(machine, situation):
    """The bits in front of the parts that match a name in this situation."""
    return sum([places for end, places in machine.uses if situation & end])


def name_hits(machine, name):
    """The bits in front of the parts that match a name."""
    situation = machine.blank
    for sign in name:
        situation = next_situation(machine, situation, sign)
    return hits_of(machine, situation)


def next_state(machine, state, hits):
    """The state after one more name."""
    return moved(machine.patterns, state, hits, machine.fresh)


def state_after(machine, names):
    """The state after some names."""
    state = machine.begin
    for name in names:
        state = next_state(machine, state, name_hits(machine, name))
    return state


def stage(machine, index, state):
    """The stage of a rule in a state."""
    start = machine.patterns.starts[index]
    end = machine.patterns.ends[index]
    return places_of((state & (end | (end - start))) // start)


def view(machine, indices):
    """The ends of the patterns of some of the rules: for directories, and for files."""
    ends = sum([machine.patterns.ends[index] for index in indices])
    return ends, ends & machine.for_files


def is_ignored(machine, hits):
    """Whether a path alone is ignored, from the ends of the rules that match it."""
    # The bits of a later rule are higher, so that the last rule has the highest one.
    last = (1 << hits.bit_length()) >> 1
    return last & machine.ignoring != 0


def last_rule(machine, hits):
    """The index of the last rule that matches, from the ends of all that match, or None."""
    found = None
    for index, end in enumerate(machine.patterns.ends):
        if hits & end:
            found = index
    return found


def decision(machine, seen, path):
    """Where some rules decide on a path, and the ends of those of them that match there.

    This is the first directory on the way that is ignored alone, or else the
    path itself. `seen` is the view of the rules.
    """
    for_directories, for_files = seen
    state = machine.begin
    end = hits = 0
    for name in names_of(path):
        state = next_state(machine, state, name_hits(machine, name))
        end = end + len(name) + 1
        hits = state & (for_directories if path[end - 1:end] == "/" else for_files)
        if is_ignored(machine, hits):
            break
    return path[:end], hits


def ignores(machine, seen, path):
    """Whether some rules ignore a path, all in all."""
    _, hits = decision(machine, seen, path)
    return is_ignored(machine, hits)
