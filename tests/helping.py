"""What several tests need: calls in all the ways that callers may make them, examples, and slow second ways."""

import copy
import itertools


def listed(value):
    """The same value with lists for tuples, at every depth."""
    if isinstance(value, (list, tuple)):
        return [listed(part) for part in value]
    return value


def outer_listed(value):
    """The same value with a list for the outermost tuple alone."""
    return list(value) if isinstance(value, tuple) else value


def inner_listed(value):
    """The same value with lists for all tuples but the outermost one."""
    return tuple(listed(part) for part in value) if isinstance(value, tuple) else value


def by_turns_listed(value, now=True):
    """The same value with lists for the tuples of each second depth."""
    if not isinstance(value, (list, tuple)):
        return value
    parts = [by_turns_listed(part, not now) for part in value]
    return parts if now else tuple(parts)


FORMS = (lambda value: value, listed, outer_listed, inner_listed, by_turns_listed)


def formed(arguments, form):
    """The arguments with lists for tuples, as form makes them; a thing is never changed."""
    return {name: value if name == "thing" else form(value) for name, value in arguments.items()}


def has_list(value, below=False):
    """Whether a list is in the value, the outermost one not counted."""
    if isinstance(value, list) and below:
        return True
    return isinstance(value, (list, tuple)) and any(has_list(part, True) for part in value)


def check_same(case, got, expected):
    """Equal, and alike in kind at each depth (no list for a tuple, no True for 1)."""
    case.assertEqual(got, expected)
    case.assertEqual(repr(got), repr(expected))


def check_call(case, function, expected, *, lists_inside=False, **arguments):
    """The call returns just this: with lists for tuples, by position and by name, again and again."""
    case.assertEqual(has_list(expected), lists_inside)
    for form in FORMS:
        handed = formed(arguments, form)
        before = copy.deepcopy(handed)
        first = function(*handed.values())
        check_same(case, first, expected)
        check_same(case, handed, before)
        if isinstance(first, list):
            first.append("spoilt")
        second = function(**handed)
        check_same(case, second, expected)
        check_same(case, handed, before)
        if isinstance(second, list):
            case.assertIsNot(first, second)
            second.clear()
        check_same(case, function(**dict(reversed(list(handed.items())))), expected)


def check_raises(case, function, expected, **arguments):
    """The call raises an error like this one: with lists for tuples, by position and by name."""
    kind = type(expected)
    for form in FORMS:
        handed = formed(arguments, form)
        before = copy.deepcopy(handed)
        for call in (lambda: function(*handed.values()), lambda: function(**handed)):
            with case.assertRaises(kind.__bases__[0]) as caught:
                call()
            case.assertIs(type(caught.exception), kind)
            check_same(case, vars(caught.exception), vars(expected))
            check_same(case, handed, before)


def raised_text(error):
    """The error as the document writes it: raises NoBill(name='tax')."""
    told = ", ".join(f"{name}={value!r}" for name, value in vars(error).items())
    return f"raises {type(error).__name__}({told})"


def answer_to(source, names):
    """What one line of an example answers, as the document writes it; "" for an assignment."""
    try:
        code = compile(source, "example", "eval")
    except SyntaxError:
        exec(source, names)
        return ""
    try:
        return repr(eval(code, names))
    except (LookupError, ValueError) as error:
        return raised_text(error)


def check_examples(case, text, names):
    """Each line behind >>> answers just what stands in the line below it."""
    lines = [line.strip() for line in text.strip().split("\n")]
    for at, line in enumerate(lines):
        if line.startswith(">>> "):
            below = lines[at + 1] if at + 1 < len(lines) else ""
            expected = "" if below.startswith(">>> ") else below
            with case.subTest(line):
                case.assertEqual(answer_to(line[4:], names), expected)


def coins(book, dues, payments, order):
    """Coin by coin: what is due behind all, the OPENS on the way, who paid what, what goes back."""
    rows, due = dict(book[1]), dict(dues)
    moments, paid_sums, back = [], {}, [0] * len(payments)
    for place in order:
        payer, amount = payments[place]
        for coin in range(amount):
            still = [bill for bill in rows[payer] if due[bill] > 0]
            if still:
                due[still[0]] -= 1
                paid_sums[payer, still[0]] = paid_sums.get((payer, still[0]), 0) + 1
            else:
                back[place] += 1
        moments.append(tuple(sorted(due.items())))
    triples = tuple(sorted((*key, number) for key, number in paid_sums.items()))
    return tuple(sorted(due.items())), moments, triples, tuple(back)


def ends_by_coins(book, dues, payments):
    """The set of what is due behind all, by all ORDERs."""
    return {coins(book, dues, payments, order)[0] for order in itertools.permutations(range(len(payments)))}


def rows_of(names):
    """All LISTS of some of these NAMEs."""
    return [row for many in range(len(names) + 1) for row in itertools.permutations(names, many)]


def sets_of(names):
    """All sets of some of these NAMEs, that ascend."""
    return [some for many in range(len(names) + 1) for some in itertools.combinations(names, many)]


def books_of(names, owners):
    """All BOOKs of just these bills and payers."""
    for rows in itertools.product(rows_of(names), repeat=len(owners)):
        yield tuple(names), tuple(zip(owners, rows))


def dues_of(names, numbers):
    """All DUES of these bills with these numbers alone."""
    for due in itertools.product(numbers, repeat=len(names)):
        yield tuple(zip(names, due))


def rests_alike(one, other):
    """Whether two LISTS agree, as the document says it, bill by bill."""
    for bill in set(one) & set(other):
        first = [name for name in one if one.index(name) > one.index(bill)]
        second = [name for name in other if other.index(name) > other.index(bill)]
        sooner, later = set(one[:one.index(bill)]), set(other[:other.index(bill)])
        if [name for name in first if name not in later] != [name for name in second if name not in sooner]:
            return False
    return True


def all_alike(rows):
    """Whether each two of these LISTS agree."""
    return all(rests_alike(one, other) for one, other in itertools.combinations(rows, 2))
