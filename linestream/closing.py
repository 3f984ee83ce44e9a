"""Closed sets of texts, which show that two scripts are alike."""

from linestream.joint import joint_of
from linestream.lines import is_text
from linestream.search import Tree


def closed_set(one, other):
    """A closed set for two scripts, None if they are not alike."""
    joint = joint_of(one, other)
    tree = Tree(joint.beginning())
    at = 0
    while at < len(tree.nodes):
        state = tree.nodes[at][0]
        if not is_fine(joint.outcomes(state, True, False)):
            return None
        outcomes = joint.outcomes(state, False, False)
        if not is_fine(outcomes):
            return None
        for _, kind, behind in outcomes:
            tree.meet(behind, at, kind)
        at += 1
    return tuple([tuple(joint.kinds.lines_on(tree.path(at))) for at in range(len(tree.nodes))])


def is_fine(outcomes):
    """Whether nothing that is unlike is among what lines lead to."""
    return not any([is_unlike for is_unlike, _, _ in outcomes])


def is_closed_set(one, other, value):
    """Whether any value is a closed set for two scripts."""
    joint = joint_of(one, other)
    if not isinstance(value, tuple) or not all([isinstance(text, tuple) and is_text(text) for text in value]):
        return False
    texts = {text: True for text in value}
    if len(texts) < len(value) or () not in texts:
        return False
    states = {joint.state_after(text): True for text in value}
    if None in states:
        return False
    for state in states:
        outcomes = joint.outcomes(state, False, False)
        if not is_fine(outcomes) or not is_fine(joint.outcomes(state, True, False)):
            return False
        if not all([behind in states for _, _, behind in outcomes]):
            return False
    return True
