"""What several files need: which kind of value a thing is, values without lists, NAMEs that must be known."""

from ownlists.errors import NoBill, NoPayer, Twice

LONGEST_NAME = 8


def is_number(thing):
    """Whether thing is a number: an int that is no bool."""
    return isinstance(thing, int) and not isinstance(thing, bool)


def is_amount(thing):
    """Whether thing is a number from 0."""
    return is_number(thing) and thing >= 0


def is_name(thing):
    """Whether thing is a NAME."""
    if not isinstance(thing, str) or not 1 <= len(thing) <= LONGEST_NAME:
        return False
    # Not isalpha and islower: these hold for letters beyond z, too.
    return all(["a" <= letter <= "z" for letter in thing])


def is_pair(thing):
    """Whether thing is a tuple of two."""
    return isinstance(thing, tuple) and len(thing) == 2


def is_names(thing):
    """Whether thing is a tuple of NAMEs, maybe alike ones."""
    return isinstance(thing, tuple) and all([is_name(part) for part in thing])


def is_list(thing):
    """Whether thing is a LIST of any NAMEs."""
    return is_names(thing) and len(set(thing)) == len(thing)


def is_ascending(names):
    """Whether each of the NAMEs, in a tuple or a list, is less than the next one."""
    return all([one < other for one, other in zip(names, names[1:])])


def is_name_set(thing):
    """Whether thing is a set of NAMEs."""
    return is_names(thing) and is_ascending(thing)


def is_amounts(thing):
    """Whether thing is a tuple of pairs of a NAME and a number from 0, in any order."""
    if not isinstance(thing, tuple):
        return False
    return all([is_pair(part) and is_name(part[0]) and is_amount(part[1]) for part in thing])


def frozen(value):
    """The same value with tuples for lists, at any depth."""
    if isinstance(value, (list, tuple)):
        return tuple([frozen(part) for part in value])
    return value


def first_not_in(names, known):
    """The first of the NAMEs that is not among the known ones; None if all are."""
    for name in names:
        if name not in known:
            return name
    return None


def first_double(names):
    """The first of the NAMEs that stands there ahead already; None if there is none."""
    for place, name in enumerate(names):
        if name in names[:place]:
            return name
    return None


def first_unlike(one, other):
    """The first place at which these two unlike tuples differ, or at which one of them ends."""
    place = 0
    while one[place:place + 1] == other[place:place + 1]:
        place = place + 1
    return place


def least_double(names):
    """The least of the NAMEs that stands there more than once; None if there is none."""
    ascending = sorted(names)
    for one, other in zip(ascending, ascending[1:]):
        if one == other:
            return one
    return None


def want_payers(names, known):
    """Raise NoPayer for the first of the NAMEs that is none of the known payers."""
    name = first_not_in(names, known)
    if name is not None:
        raise NoPayer(name)


def want_bills(names, known):
    """Raise NoBill for the first of the NAMEs that is none of the known bills."""
    name = first_not_in(names, known)
    if name is not None:
        raise NoBill(name)


def want_new(names, known):
    """Raise Twice for the first of the NAMEs that is known already."""
    for name in names:
        if name in known:
            raise Twice(name)


def want_once(names):
    """Raise Twice for the first of the NAMEs that stands there ahead already."""
    name = first_double(names)
    if name is not None:
        raise Twice(name)


def want_unlike(names):
    """Raise Twice for the least of the NAMEs that stands there more than once."""
    name = least_double(names)
    if name is not None:
        raise Twice(name)


def all_sets(names):
    """The ascending list of the sets of some of these NAMEs, an ascending tuple."""
    found = [()]
    for place, name in enumerate(names):
        found.extend([(name,) + some for some in all_sets(names[place + 1:])])
    return found


def all_lists(names):
    """The ascending list of the LISTS of some of these NAMEs, an ascending tuple."""
    found = [()]
    for name in names:
        others = tuple([other for other in names if other != name])
        found.extend([(name,) + row for row in all_lists(others)])
    return found
