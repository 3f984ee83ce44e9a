"""Searches for texts that show something.

What a search goes through is told by a function steps(state, is_last): a list of tuples (found, kind, behind) for the
reading of a line, as the last one or not: what is found then, a class of such a line, and the state ahead of the next
line, None if the script has ended. A text is told by the classes of its lines.
"""


class Tree:
    """The states that are met, each with the shortest way to it."""

    def __init__(self, start):
        # Tuples (state, index of the one ahead of it, class of the line between them, how many lines).
        self.nodes = [(start, -1, 0, 0)]
        self._is_met = {start: True}

    def meet(self, state, at, kind):
        """Notes that a line of a class leads to a state from the node with this index."""
        if state not in self._is_met:
            self._is_met[state] = True
            self.nodes.append((state, at, kind, self.nodes[at][3] + 1))

    def path(self, at):
        """The classes of the lines that lead to the node with this index."""
        found = []
        while at > 0:
            _, ahead, kind, _ = self.nodes[at]
            found.append(kind)
            at = ahead
        return found[::-1]


def shortest(start, steps):
    """The classes of a text with as few lines as possible for which something is found, None if there is none."""
    tree = Tree(start)
    later = None
    at = 0
    while at < len(tree.nodes):
        state, _, _, many = tree.nodes[at]
        if later is not None and len(later) <= many + 1:
            return later
        for found, kind, _ in steps(state, True):
            if found:
                return [*tree.path(at), kind]
        for found, kind, behind in steps(state, False):
            if found and later is None:
                # Any line may follow, so that this one is not the last.
                later = [*tree.path(at), kind, 0]
            if behind is not None:
                tree.meet(behind, at, kind)
        at += 1
    return later


def greatest(start, steps):
    """A tuple: the greatest number that is found, and the classes of a text with as few lines as possible for which it
    is; (0, []) if none is found."""
    tree = Tree(start)
    best = (0, 0, -1, [])
    at = 0
    while at < len(tree.nodes):
        state, _, _, many = tree.nodes[at]
        for found, kind, _ in steps(state, True):
            if (found, -many - 1) > best[:2]:
                best = (found, -many - 1, at, [kind])
        for found, kind, behind in steps(state, False):
            if (found, -many - 2) > best[:2]:
                best = (found, -many - 2, at, [kind, 0])
            if behind is not None:
                tree.meet(behind, at, kind)
        at += 1
    return best[0], tree.path(best[2]) + best[3]


def reachable(start, steps):
    """All states that texts lead to, ahead of some next line."""
    tree = Tree(start)
    at = 0
    while at < len(tree.nodes):
        for _, kind, behind in steps(tree.nodes[at][0], False):
            if behind is not None:
                tree.meet(behind, at, kind)
        at += 1
    return [node[0] for node in tree.nodes]
