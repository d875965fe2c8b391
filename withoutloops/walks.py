"""Walks: where one comes to by steps. A step is a pair: from the first one to the second."""


def reached(steps, start):
    """What one comes to from start: for each the one from which it was come to, None for start itself."""
    leads = {}
    for one, other in steps:
        leads.setdefault(one, []).append(other)
    ahead = {start: None}
    met = [start]
    at = 0
    while at < len(met):
        for other in leads.get(met[at], []):
            if other not in ahead:
                ahead[other] = met[at]
                met.append(other)
        at += 1
    return ahead


def way_to(ahead, end):
    """The way from where reached began to this end, which is one that it tells of."""
    way = []
    at = end
    while at is not None:
        way.append(at)
        at = ahead[at]
    return tuple(way[::-1])


def both_ways(ties):
    """The steps along ties, that lead both ways."""
    return ties + tuple([(other, one) for one, other in ties])


def are_steps(value, steps):
    """Whether each two neighbours in value are a step."""
    return all([(value[at], value[at + 1]) in steps for at in range(len(value) - 1)])
