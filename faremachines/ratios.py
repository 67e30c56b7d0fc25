"""Ratios: pairs of integers in lowest terms, the second one at least 1 ([8.1])."""

from math import gcd, lcm


def is_ratio(pair):
    """Tell whether a pair of integers is a ratio."""
    return pair[1] >= 1 and gcd(pair[0], pair[1]) == 1


def is_ratio_within(pair, most):
    """Tell whether a pair of integers is a ratio from 0 to an integer."""
    return is_ratio(pair) and 0 <= pair[0] <= most * pair[1]


def are_ratios_from_0(pairs, many):
    """Tell whether pairs of integers are so many ratios from 0 on."""
    return len(pairs) == many and all([is_ratio(pair) and pair[0] >= 0 for pair in pairs])


def ratio_of(p, q):
    """Return the ratio of an integer to one above 0."""
    shared = gcd(p, q)
    return p // shared, q // shared


def opposite(ratio):
    """Return the ratio with the other sign."""
    return -ratio[0], ratio[1]


def shared_terms(ratios):
    """Return the list of the first integers of ratios when all have one second integer, and this one."""
    below = 1
    for _, q in ratios:
        below = lcm(below, q)
    return [p * (below // q) for p, q in ratios], below


def weighed_ratio(numbers, ratios):
    """Return the sum of some integers, times ratios."""
    terms, below = shared_terms(ratios)
    return ratio_of(sum([number * term for number, term in zip(numbers, terms)]), below)


def sum_of(ratios):
    """Return the sum of ratios."""
    terms, below = shared_terms(ratios)
    return ratio_of(sum(terms), below)


def is_at_most(first, second):
    """Tell whether a ratio is at most another one."""
    return first[0] * second[1] <= second[0] * first[1]
