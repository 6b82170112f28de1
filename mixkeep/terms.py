"""Terms: whether an even or an odd number of some unknowns is yes, by one tie each, and their sums."""

from mixkeep.mixes import places
from mixkeep.nets import row_at, unmet


def is_odd(mask):
    """Whether a set has an odd number of members."""
    return len(places(mask)) % 2 == 1


def spread(scope, row):
    """The mask of the unknowns of a scope at whose places a row is yes."""
    return sum([1 << scope[place] for place in places(row)])


def is_term(net, term):
    """Whether three whole numbers, however great, are a term."""
    number, some, parity = term
    ties = net[1]
    if not 0 <= number < len(ties) or parity not in (0, 1):
        return False
    scope, table = ties[number]
    counted = row_at(scope, some)
    # What the scope has of these unknowns must be all of them.
    return spread(scope, counted) == some and all([is_odd(row & counted) == (parity == 1) for row in places(table)])


def term_fault(net, terms):
    """The place of the first tuple that is no term; their number where the terms don't say that 0 is odd; or None."""
    some_odd = 0
    parity = 0
    for place, term in enumerate(terms):
        if not is_term(net, term):
            return place
        some_odd ^= term[1]
        parity ^= term[2]
    return None if some_odd == 0 and parity == 1 else len(terms)


def all_terms(net):
    """All terms of a net's ties."""
    found = []
    for number, tie in enumerate(net[1]):
        for row in range(1 << len(tie[0])):
            some = spread(tie[0], row)
            found.extend([term for term in ((number, some, 0), (number, some, 1)) if is_term(net, term)])
    return found


def lead(some):
    """The greatest member of a set that is not empty."""
    return some.bit_length() - 1


def reduced(sums, summand):
    """A sum without the leads of earlier sums, which are added to it where they stand in it."""
    some, parity, used = summand
    for earlier in sums:
        if some >> lead(earlier[0]) & 1:
            some ^= earlier[0]
            parity ^= earlier[1]
            used ^= earlier[2]
    return (some, parity, used)


def setting_by(sums):
    """A setting that makes each sum come out."""
    setting = 0
    # A sum holds no lead of an earlier one, so what it holds beside its own lead is settled when it is come to.
    for some, parity, used in reversed(sums):
        if is_odd(some & setting) != (parity == 1):
            setting |= 1 << lead(some)
    return setting


def summed(net):
    """A setting that meets a net, or terms that say together that 0 is odd; None where neither was found."""
    terms = all_terms(net)
    # Each sum is a mask of unknowns, its parity, and a mask of the terms that it is the sum of.
    sums = []
    for number, term in enumerate(terms):
        left = reduced(sums, (term[1], term[2], 1 << number))
        if left[0] != 0:
            sums.append(left)
        elif left[1] == 1:
            return ("none", tuple([terms[place] for place in places(left[2])]))
    # Terms tell all that a tie kept by odd does, so only other nets may be left unmet here.
    setting = setting_by(sums)
    return ("set", setting) if unmet(net, setting) is None else None
