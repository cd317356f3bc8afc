"""What several tests need: calls made in all the ways that callers may make them, and examples of the document."""

import copy


def listed(value):
    """The same value with lists for tuples, at every depth."""
    if isinstance(value, (list, tuple)):
        return [listed(part) for part in value]
    return value


def outer_listed(value):
    """The same value with a list for the outermost tuple alone."""
    return list(value) if isinstance(value, tuple) else value


def inner_listed(value):
    """The same value with lists for all tuples but the outermost one."""
    return tuple(listed(part) for part in value) if isinstance(value, tuple) else value


def by_turns_listed(value, now=True):
    """The same value with lists for the tuples of each second depth."""
    if not isinstance(value, (list, tuple)):
        return value
    parts = [by_turns_listed(part, not now) for part in value]
    return parts if now else tuple(parts)


FORMS = (lambda value: value, listed, outer_listed, inner_listed, by_turns_listed)


def formed(arguments, form):
    """The arguments with lists for tuples, as form makes them; a thing is never changed."""
    return {name: value if name == "thing" else form(value) for name, value in arguments.items()}


def has_list(value, below=False):
    """Whether a list is in the value, the outermost one not counted."""
    if isinstance(value, list) and below:
        return True
    return isinstance(value, (list, tuple)) and any(has_list(part, True) for part in value)


def check_same(case, got, expected):
    """Equal, and alike in kind at each depth (no list for a tuple, no True for 1)."""
    case.assertEqual(got, expected)
    case.assertEqual(repr(got), repr(expected))


def check_call(case, function, expected, **arguments):
    """The call returns just this: with lists for tuples, by position and by name, again and again."""
    case.assertFalse(has_list(expected))
    for form in FORMS:
        handed = formed(arguments, form)
        before = copy.deepcopy(handed)
        first = function(*handed.values())
        check_same(case, first, expected)
        check_same(case, handed, before)
        if isinstance(first, list):
            first.append("spoilt")
        second = function(**handed)
        check_same(case, second, expected)
        check_same(case, handed, before)
        if isinstance(second, list):
            case.assertIsNot(first, second)
            second.clear()
        check_same(case, function(**dict(reversed(list(handed.items())))), expected)


def check_raises(case, function, expected, **arguments):
    """The call raises an error like this one: with lists for tuples, by position and by name."""
    kind = type(expected)
    for form in FORMS:
        handed = formed(arguments, form)
        before = copy.deepcopy(handed)
        for call in (lambda: function(*handed.values()), lambda: function(**handed)):
            with case.assertRaises(kind.__bases__[0]) as caught:
                call()
            case.assertIs(type(caught.exception), kind)
            check_same(case, vars(caught.exception), vars(expected))
            check_same(case, handed, before)


def raised_text(error):
    """The error as the document writes it: raises NoBill(name='tax')."""
    told = ", ".join(f"{name}={value!r}" for name, value in vars(error).items())
    return f"raises {type(error).__name__}({told})"


def answer_to(source, names):
    """What one line of an example answers, as the document writes it; "" for an assignment."""
    try:
        code = compile(source, "example", "eval")
    except SyntaxError:
        exec(source, names)
        return ""
    try:
        return repr(eval(code, names))
    except (LookupError, ValueError) as error:
        return raised_text(error)


def check_examples(case, text, names):
    """Each line behind >>> answers just what stands in the line below it."""
    lines = [line.strip() for line in text.strip().split("\n")]
    for at, line in enumerate(lines):
        if line.startswith(">>> "):
            below = lines[at + 1] if at + 1 < len(lines) else ""
            expected = "" if below.startswith(">>> ") else below
            with case.subTest(line):
                case.assertEqual(answer_to(line[4:], names), expected)
