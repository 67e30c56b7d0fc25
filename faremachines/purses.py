"""The least credits with which one who pays is never broke, with a choice of its own or against another one's."""

# More than any credit that is needed, so that it stands for none.
ENDLESS = 1000000000


def credit_ahead(credits_behind, step):
    """Return the credit that is needed ahead of a step: a state, and what is to be paid."""
    credit = credits_behind[step[0]]
    return ENDLESS if credit == ENDLESS else max(0, credit + step[1])


def turns_free(graph, state):
    """Tell whether one can come from a state back to it without any credit."""
    most = {state: 0}
    # A longer round that needs no credit has a part that needs none, begun in some state of it.
    for _ in graph:
        found = {}
        for place in most:
            for after, paid in graph[place]:
                left = most[place] - paid
                if left >= found.get(after, 0):
                    found[after] = left
        if state in found:
            return True
        most = found
    return False


def least_credits(graph):
    """Return the list of the least credits with which one can go on for ever; ENDLESS if there is none.

    The graph is a list with a list of steps for each state, one of which is chosen.
    """
    found = [0 if turns_free(graph, state) else ENDLESS for state in range(len(graph))]
    for _ in graph:
        ahead = [min([credit_ahead(found, step) for step in steps], default=ENDLESS) for steps in graph]
        found = [min(one, other) for one, other in zip(found, ahead)]
    return found


def credits_against(groups):
    """Return the least credits if the other side chooses one of a state's lists of steps, and one chooses its step."""
    chosen = [0 for lists in groups]
    while True:
        found = least_credits([lists[at] for lists, at in zip(groups, chosen)])
        better = False
        for state, lists in enumerate(groups):
            needed = [min([credit_ahead(found, step) for step in steps]) for steps in lists]
            if max(needed) > found[state]:
                chosen[state] = needed.index(max(needed))
                better = True
        if not better:
            return found


def credits_with(groups):
    """Return the least credits if one chooses one of a state's lists of steps, and the other side chooses its step."""
    chosen = [[0 for steps in lists] for lists in groups]
    while True:
        graph = []
        for lists, taken in zip(groups, chosen):
            graph.append([steps[at] for steps, at in zip(lists, taken)])
        found = least_credits(graph)
        better = False
        for state, lists in enumerate(groups):
            for index, steps in enumerate(lists):
                needed = [credit_ahead(found, step) for step in steps]
                if max(needed) > needed[chosen[state][index]]:
                    chosen[state][index] = needed.index(max(needed))
                    better = True
        if not better:
            return found
