"""Wirings: links between leaves, and nodes over them (point 12)."""

from comesapart.errors import BadLink, BadNode, NoLinks, TooLarge, UnknownTerm

KINDS = ("both", "together")


def check_links(links, leaves):
    """Raise an error if there are too few or too many links, or if one is wrong; leaves is the number of leaves."""
    if len(links) == 0:
        raise NoLinks("there is no link")
    if len(links) > Wiring.MOST_LINKS:
        raise TooLarge(Wiring.MOST_LINKS)
    linked = {}
    for index, link in enumerate(links):
        for leaf in link:
            if leaf not in range(leaves) or leaf in linked:
                raise BadLink(index)
            linked[leaf] = True


def check_nodes(leaves, nodes):
    """Raise BadNode for the first wrong node over this number of leaves."""
    taken = {}
    for index, (kind, left, right) in enumerate(nodes):
        if kind not in KINDS:
            raise BadNode(index)
        for part in (left, right):
            if part not in range(leaves + index) or part in taken:
                raise BadNode(index)
            taken[part] = True


def parents_of_terms(leaves, nodes):
    """Return for each term the index of the node that has it as a part, or None."""
    parents = [None] * (leaves + len(nodes))
    for index, (_, left, right) in enumerate(nodes):
        parents[left] = index
        parents[right] = index
    return parents


def leaves_of_terms(leaves, nodes):
    """Return for each term the leaves from which it is built, ascending."""
    under = [[leaf] for leaf in range(leaves)]
    for _, left, right in nodes:
        under.append(sorted(under[left] + under[right]))
    return under


class Wiring:
    """A wiring, which never changes."""

    MOST_LINKS = 40

    def __init__(self, links, nodes):
        self.links = tuple([tuple(link) for link in links])
        self.nodes = tuple([tuple(node) for node in nodes])
        check_links(self.links, self.leaves)
        check_nodes(self.leaves, self.nodes)
        self._parents = parents_of_terms(self.leaves, self.nodes)
        self._under = leaves_of_terms(self.leaves, self.nodes)
        self._links_of = {leaf: index for index, link in enumerate(self.links) for leaf in link}

    def __contains__(self, term):
        return term in range(self.terms)

    def __eq__(self, other):
        return isinstance(other, Wiring) and self.links == other.links and self.nodes == other.nodes

    @property
    def leaves(self):
        """The number of leaves."""
        return 2 * len(self.links)

    @property
    def terms(self):
        """The number of terms."""
        return 2 * len(self.links) + len(self.nodes)

    @property
    def boths(self):
        """The number of nodes of the kind both."""
        return len([node for node in self.nodes if node[0] == "both"])

    @property
    def roots(self):
        """The terms that are no part of a node, ascending."""
        return tuple([term for term, parent in enumerate(self._parents) if parent is None])

    def parent(self, term):
        """Return the index of the node that has the term as a part, or None for a root."""
        if term not in self:
            raise UnknownTerm(term)
        return self._parents[term]

    def leaves_under(self, term):
        """Return the leaves from which the term is built, ascending."""
        if term not in self:
            raise UnknownTerm(term)
        return list(self._under[term])

    def link_of(self, leaf):
        """Return the index of the link of the leaf."""
        if leaf not in range(self.leaves):
            raise UnknownTerm(leaf)
        return self._links_of[leaf]

    def mate(self, leaf):
        """Return the other leaf of the link of the leaf."""
        first, second = self.links[self.link_of(leaf)]
        return second if leaf == first else first
