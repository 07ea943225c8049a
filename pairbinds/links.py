"""Links: pairs of names that wishes say or need, and chains of them."""


def is_chain(links, chain, one, other):
    """Whether some tuples are links that lead from one name to another."""
    if len(chain) == 0 or chain[0][0] != one or chain[-1][1] != other:
        return False
    if not all([link in links for link in chain]):
        return False
    return all([before[1] == behind[0] for before, behind in zip(chain, chain[1:])])


def find_chain(links, one, other):
    """A shortest chain from one name to another, or None."""
    chains = [[link] for link in links if link[0] == one]
    reached = {}
    while chains:
        chain = chains.pop(0)
        end = chain[-1][1]
        if end == other:
            return chain
        if end not in reached:
            reached[end] = True
            chains.extend([chain + [link] for link in links if link[0] == end])
    return None


def find_ring(links, names):
    """A chain from one of some names to itself, or None."""
    for name in names:
        chain = find_chain(links, name, name)
        if chain is not None:
            return chain
    return None
