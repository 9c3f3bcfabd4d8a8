"""Looking a chart over. Nearly all that are handed in are right, and each time one is, all of it is looked at: so what
is asked first is only whether anything at all is wrong, in as few passes as may be."""

from deepstands.faults import MOST_FACTS, MOST_HAPPENINGS, MOST_MOVES, MOST_STANDS, first_fault, has_outline, names_word
from deepstands.kinds import GREATEST, KEYWORDS, MOST_SIGNS
from deepstands.parts import Parts
from deepstands.tree import Tree


def are_names(texts):
    """Whether all of these texts, one at least, are NAMES."""
    if [text for text in texts if len(text) > MOST_SIGNS or text in KEYWORDS or not text.isidentifier()]:
        return False
    # As in is_name, of all of them at once.
    signs = "".join(texts)
    return signs.isascii() and signs.isalnum() and signs.islower()


def are_facts(facts):
    """Whether all of these are facts, but for their names, which are texts."""
    for fact in facts:
        if not isinstance(fact, tuple) or len(fact) != 4:
            return False
        name, low, high, first = fact
        if not isinstance(name, str) or not isinstance(low, int) or not isinstance(high, int):
            return False
        if low is True or low is False or high is True or high is False or first is True or first is False:
            return False
        if not isinstance(first, int) or not -GREATEST <= low <= first <= high <= GREATEST:
            return False
    return True


def are_all_names(chart, tree, parts):
    """Whether all NAMES that are told, but for those that must be there, are some, and none is there twice."""
    facts, happenings = parts.facts, chart[1]
    if len(tree.numbers) != len(tree.names) or len(set(facts)) != len(facts) or len(set(happenings)) != len(happenings):
        return False
    for fact in facts:
        if fact in tree.numbers:
            return False
    return "tick" not in happenings and are_names([*tree.names, *facts, *happenings, *parts.words])


def tree_of_right(thing):
    """The tree of a thing's stands where it is a chart, else None."""
    if not has_outline(thing):
        return None
    facts, happenings, root = thing
    if len(facts) > MOST_FACTS or len(happenings) > MOST_HAPPENINGS or not are_facts(facts):
        return None
    if not all([isinstance(happening, str) for happening in happenings]):
        return None
    parts = Parts(tuple([fact[0] for fact in facts]), happenings)
    tree = Tree()
    if not tree.take_stands((root,), None, 1, parts.deeds) or not tree.has_root() or len(tree.names) > MOST_STANDS:
        return None
    if sum([len(moves) for _, moves in tree.moving]) > MOST_MOVES:
        return None
    if not parts.take_moves(tree.moving) or not parts.take_rest():
        return None
    if not are_all_names(thing, tree, parts) or names_word(tree, parts) is not None:
        return None
    for number in parts.done_movers:
        if not tree.may_be_done(number):
            return None
    tree.greatest = parts.greatest
    return tree


def looked_over(thing):
    """What is wrong first with a thing, None where it is a chart; and the tree of its stands then."""
    tree = tree_of_right(thing)
    return (None, tree) if tree is not None else (first_fault(thing), None)
