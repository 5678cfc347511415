"""Programs and tests: their texts, their trees, and what stands in them."""

from arrowcells.comparisons import comparison_in
from arrowcells.errors import HasLoop, InvalidDeed, InvalidProgram, InvalidTest, TooMany
from arrowcells.kinds import is_letter, is_target, is_tuple_of
from arrowcells.names import need_known

MOST_STATEMENTS = 30
MOST_BRACES = 4
MOST_COMPARISONS = 3
MOST_LETTERS = 4


def is_program(value):
    """Whether a value, whatever it is, is a program."""
    return program_or_none(value) is not None


def is_test(value):
    """Whether a value, whatever it is, is a test."""
    return test_or_none(value) is not None


def is_deed(value):
    """Whether a value, whatever it is, is a deed."""
    if not isinstance(value, tuple) or not 2 <= len(value) <= 3 or not is_letter(value[1]):
        return False
    if len(value) == 2:
        return value[0] in ("new", "drop")
    if value[0] in ("copy", "tie"):
        return is_target(value[2])
    return value[0] == "next" and is_letter(value[2])


def program_tree(program):
    """The tree of a program: the tuple of its statements."""
    tree = program_or_none(program)
    if tree is None:
        raise InvalidProgram(program)
    return tree


def test_tree(test):
    """The tree of a test: `and` or `or`, and the tuple of its comparisons."""
    tree = test_or_none(test)
    if tree is None:
        raise InvalidTest(test)
    return tree


def program_or_none(value):
    """The tree of a program, None for what is no program."""
    if not isinstance(value, str):
        return None
    words = _words_in(value)
    found = _read(words, 0, 0)
    if found is None or found[1] != len(words) or statements_in(found[0]) > MOST_STATEMENTS:
        return None
    return found[0]


def test_or_none(value):
    """The tree of a test, None for what is no test."""
    return _test_in(value.split(" ")) if isinstance(value, str) else None


def _words_in(text):
    """The list of the words of a program, with each semicolon as a word of its own."""
    words = []
    for word in text.split(" "):
        if word.endswith(";"):
            words.extend([word[:-1], ";"])
        else:
            words.append(word)
    return words


def _read(words, at, depth):
    """The tree of the program that begins at an index, and the index behind it; None if there is none."""
    if words[at:at + 1] == ["none"]:
        return (), at + 1
    tree = ()
    while True:
        found = _read_statement(words, at, depth)
        if found is None:
            return None
        tree = tree + (found[0],)
        at = found[1]
        if words[at:at + 1] != [";"]:
            return tree, at
        at += 1


def _read_statement(words, at, depth):
    """Like _read, for a single statement."""
    if words[at:at + 1] in (["if"], ["while"]):
        return _read_branching(words, at, depth)
    # No deed's words begin with the words of another deed.
    for many in (2, 3, 4):
        deed = _deed_in(words[at:at + many])
        if deed is not None:
            return deed, at + many
    return None


def _deed_in(words):
    """The deed that a list of words tells, None if they tell none."""
    if len(words) == 2 and words[0] == "drop" and is_letter(words[1]):
        return "drop", words[1]
    if len(words) == 3 and is_letter(words[0]) and words[1] == "=":
        if words[2] == "new":
            return "new", words[0]
        return ("copy", words[0], words[2]) if is_target(words[2]) else None
    if len(words) == 4 and is_letter(words[0]) and words[1:3] == ["=", "next"] and is_letter(words[3]):
        return "next", words[0], words[3]
    if len(words) == 4 and words[0] == "next" and is_letter(words[1]) and words[2] == "=" and is_target(words[3]):
        return "tie", words[1], words[3]
    return None


def _read_branching(words, at, depth):
    """Like _read, for an `if` or a `while`, which stand in so many braces."""
    if depth >= MOST_BRACES or "{" not in words[at:]:
        return None
    brace = words.index("{", at)
    test = _test_in(words[at + 1:brace])
    body = _read_braces(words, brace, depth)
    if test is None or body is None:
        return None
    tree, behind = body
    if words[at] == "while":
        return ("while", test, tree), behind
    if words[behind:behind + 1] != ["else"]:
        return ("if", test, tree, ()), behind
    other = _read_braces(words, behind + 1, depth)
    return None if other is None else (("if", test, tree, other[0]), other[1])


def _read_braces(words, at, depth):
    """Like _read, for a program in braces."""
    if words[at:at + 1] != ["{"]:
        return None
    found = _read(words, at + 1, depth + 1)
    if found is None or words[found[1]:found[1] + 1] != ["}"]:
        return None
    return found[0], found[1] + 1


def _test_in(words):
    """The tree of the test that a list of words tells, None if they tell none."""
    joint = words[3] if len(words) > 3 else "and"
    firsts = range(0, len(words), 4)
    comparisons = [comparison_in(words[first:first + 3]) for first in firsts]
    joints = [words[first + 3] for first in firsts if first + 3 < len(words)]
    if joint not in ("and", "or") or None in comparisons or joints != [joint] * (len(comparisons) - 1):
        return None
    return (joint, tuple(comparisons)) if 1 <= len(comparisons) <= MOST_COMPARISONS else None


def program_text(tree):
    """The program with this tree, without `else { none }`."""
    text = _text(tree)
    # The text of what only looks like a tree leads to another tree, or to none.
    if text is None or program_or_none(text) != tree:
        raise InvalidProgram(tree)
    return text


def _text(tree):
    """The text for a tree, None for what does not even look like one."""
    if not isinstance(tree, tuple):
        return None
    texts = [_statement_text(statement) for statement in tree]
    return None if None in texts else "; ".join(texts) or "none"


def _statement_text(statement):
    """The text for a statement, None for what does not look like one."""
    if is_deed(statement):
        return _deed_text(statement)
    is_if = is_tuple_of(statement, 4) and statement[0] == "if"
    is_while = is_tuple_of(statement, 3) and statement[0] == "while"
    if not is_if and not is_while:
        return None
    texts = [_test_text(statement[1])] + [_text(part) for part in statement[2:]]
    if None in texts:
        return None
    text = ("if " if is_if else "while ") + texts[0] + " { " + texts[1] + " }"
    return text if is_while or statement[3] == () else text + " else { " + texts[2] + " }"


def _deed_text(deed):
    """The text of a deed."""
    if deed[0] == "copy":
        return f"{deed[1]} = {deed[2]}"
    if deed[0] == "next":
        return f"{deed[1]} = next {deed[2]}"
    if deed[0] == "tie":
        return f"next {deed[1]} = {deed[2]}"
    return f"{deed[1]} = new" if deed[0] == "new" else f"drop {deed[1]}"


def _test_text(tree):
    """The text for the tree of a test, None for what does not look like one."""
    if not is_tuple_of(tree, 2) or tree[0] not in ("and", "or") or not isinstance(tree[1], tuple):
        return None
    texts = []
    for item in tree[1]:
        if not is_tuple_of(item, 3) or not all([isinstance(word, str) for word in item]):
            return None
        texts.append(f"{item[1]} {item[0]} {item[2]}")
    joint = f" {tree[0]} "
    return joint.join(texts)


def program_letters(program):
    """The ascending string of the letters of a program."""
    return letters_of_tree(program_tree(program))


def letters_of_tree(tree):
    """The ascending string of the letters of the tree of a program."""
    found = {}
    for statement in _all_statements(tree):
        words = statement[1:] if is_deed(statement) else letters_tested(statement[1])
        for word in words:
            found[word] = True
    return "".join([letter for letter in sorted(found) if letter != "END"])


def need_test(test, names):
    """The tree of a test; UnknownName with the first of its letters that is none of the names."""
    tree = test_tree(test)
    need_known(letters_tested(tree), names)
    return tree


def letters_tested(tree):
    """The ascending string of the letters of the tree of a test."""
    found = {word: True for item in tree[1] for word in item[1:]}
    return "".join([letter for letter in sorted(found) if letter != "END"])


def _all_statements(tree):
    """The list of all statements of a tree, those in braces behind their own one."""
    found = []
    for statement in tree:
        found.append(statement)
        if not is_deed(statement):
            for part in statement[2:]:
                found.extend(_all_statements(part))
    return found


def deeds_of(program):
    """The tuple of the deeds of a program, in the order of the text."""
    return tuple(deeds_in(program_tree(program)))


def deeds_in(tree):
    """The list of the deeds of the tree of a program, in the order of the text."""
    return [statement for statement in _all_statements(tree) if is_deed(statement)]


def loops_in(tree):
    """The list of the loops of the tree of a program, in the order of the text."""
    return [statement for statement in _all_statements(tree) if statement[0] == "while"]


def has_loop(program):
    """Whether a program has a `while`."""
    return loops_in(program_tree(program)) != []


def is_plain(program):
    """Whether a program has no `while` within a `while`."""
    return is_plain_tree(program_tree(program))


def is_plain_tree(tree):
    """Whether a tree has no `while` within a `while`."""
    return not any([loops_in(statement[2]) for statement in loops_in(tree)])


def statements_number(program):
    """How many statements a program has, those in braces counted."""
    return statements_in(program_tree(program))


def statements_in(tree):
    """How many statements a tree has, those in braces counted."""
    return len(_all_statements(tree))


def straight_tree(program):
    """The tree of a program without loops; HasLoop for a program with some."""
    tree = program_tree(program)
    if loops_in(tree):
        raise HasLoop()
    return tree


def need_deed(value):
    """Raises InvalidDeed for what is no deed."""
    if not is_deed(value):
        raise InvalidDeed(value)


def need_few_letters(names, tree):
    """Raises TooMany with the number of letters of names and a program together, if there are more than four."""
    many = len(set(names + letters_of_tree(tree)))
    if many > MOST_LETTERS:
        raise TooMany(many)
