"""Looking a chart over. Nearly all that are handed in are right, and each time one is, all of it is looked at: so what
is asked first is only whether anything at all is wrong, in as few passes as may be. Where something is, what was met up
to there tells among what the first that is wrong must be looked for."""

from deepstands.faults import first_form_fault, first_name_fault, has_outline, names_word
from deepstands.kinds import GREATEST, KEYWORDS, MOST_SIGNS
from deepstands.parts import Parts
from deepstands.tree import MOST_FACTS, MOST_HAPPENINGS, MOST_MOVES, MOST_STANDS, Tree


def are_names(texts):
    """Whether all of these texts, one at least, are NAMES."""
    if [text for text in texts if len(text) > MOST_SIGNS or text in KEYWORDS or not text.isidentifier()]:
        return False
    # As in is_name, of all of them at once.
    signs = "".join(texts)
    return signs.isascii() and signs.isalnum() and signs.islower()


def are_facts(facts):
    """Whether all of these are facts, but for their names, which are texts."""
    for fact in facts:
        if not isinstance(fact, tuple) or len(fact) != 4:
            return False
        name, low, high, first = fact
        if not isinstance(name, str) or not isinstance(low, int) or not isinstance(high, int):
            return False
        if low is True or low is False or high is True or high is False or first is True or first is False:
            return False
        if not isinstance(first, int) or not -GREATEST <= low <= first <= high <= GREATEST:
            return False
    return True


def has_head(thing):
    """Whether a thing is made as a chart is, but for its root and for names, and has no more facts and happenings than
    it may."""
    if not has_outline(thing):
        return False
    facts, happenings, _ = thing
    if len(facts) > MOST_FACTS or len(happenings) > MOST_HAPPENINGS or not are_facts(facts) or "tick" in happenings:
        return False
    return not [happening for happening in happenings if not isinstance(happening, str)]


def is_right(tree, parts):
    """Whether nothing is wrong with names that are told twice, or aren't there, nor with where stands are."""
    facts, happenings, numbers = parts.facts, parts.happenings, tree.numbers
    if len(numbers) < len(tree.names) or not tree.has_root() or tree.markers and not tree.are_markers_placed():
        return False
    if len(set(facts)) < len(facts) or len(set(happenings)) < len(happenings):
        return False
    if [fact for fact in facts if fact in numbers] or names_word(tree, parts) is not None:
        return False
    return not [number for number in parts.done_movers if not tree.may_be_done(number)]


def looked_over(thing):
    """What is wrong first with a thing, None where it is a chart; and the tree of its stands then."""
    if not has_head(thing):
        return first_form_fault(thing, False), None
    facts, happenings, root = thing
    parts = Parts(tuple([fact[0] for fact in facts]), happenings)
    tree = Tree()
    if not tree.take_stands((root,), None, 1, parts.deeds) or len(tree.names) > MOST_STANDS:
        return first_form_fault(thing, False), None
    if not parts.take_moves(tree.moving) or not parts.take_rest():
        return first_form_fault(thing, True), None
    if not are_names([*tree.names, *parts.facts, *happenings, *parts.words]):
        return first_form_fault(thing, True), None
    if parts.many_moves > MOST_MOVES:
        return first_form_fault(thing, False), None
    tree.number_names()
    if is_right(tree, parts):
        tree.greatest = parts.greatest
        return None, tree
    if not parts.are_named():
        return first_form_fault(thing, True), None
    return first_name_fault(thing, tree, parts), None
