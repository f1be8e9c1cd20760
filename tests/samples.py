"""Values and slow reference functions for the tests, made without the package."""

import itertools

VERBS = ("front", "back", "drop", "addfront", "addback", "lift", "sink")
CASES = ("always", "present", "absent")
LETTERS = "abcdefghijklmnopqrstuvwxyz"

DEEP = {"a": ([{"b": ((["c"],),)}],)}

# Values that are neither words nor rows nor programs nor meanings.
WRONG_EVERYWHERE = [
    None, True, False, 0, 1, -1, 12, 10 ** 999, -(10 ** 999),
    "", "A", "a b", "a" * 2000, "front x; drop y",
    {}, {"a": 1}, {"front": "x"}, {("front", "x"): None}, DEEP, [DEEP], (DEEP,),
    [None], (None,), [True], (True,), [0], (0,), [[]], [()], [{}], ([],), ({},), ((),),
    [["a"]], [("a",)], (["a"],), (("a",),), [1] * 200, (1,) * 200, {str(k): k for k in range(200)},
]

WRONG_WORDS = WRONG_EVERYWHERE + [
    (), [], ("a",), ["a"], ("front", "x"), "abcdefghi", "aB", "Ab", "a1", "1", "a-b", "a_b", "_", " ", " a", "a ",
    "a\n", "\na", "\n", "\t", "\r", "`", "{", "a`", "a{", "@", "[", "~", "a.b", "a;", "abcdefgh ", "abcdefgH",
]

LETTER_WORDS = tuple(LETTERS)

WRONG_ROWS = WRONG_EVERYWHERE + [
    "a", "ab", "front", [], ["a"], ["a", "b"], ("a", "a"), ("a", "b", "a"), ("b", "a", "a"), ("a",) * 20,
    LETTER_WORDS[:21], LETTER_WORDS, tuple(a + b for a in LETTERS for b in LETTERS[:7]), LETTER_WORDS[:20] + ("a",),
    ("A",), ("",), ("a", ""), ("abcdefghi",), ("a", "abcdefghi"), ("a b",), ("a\n",), ("a1",), ("a", "B", "c"),
    ("a", None), (None, "a"), ("a", True), ("a", 1), ("a", ("b",)), ("a", ["b"]), ("a", {}), ({}, "a"), (["a"], "a"),
    {"a": "b", "c": "d"}, ("a", DEEP),
]

TWELVE = LETTER_WORDS[:12]
THIRTEEN = LETTER_WORDS[:13]

WRONG_OPERATIONS = WRONG_EVERYWHERE + [
    "a", "ab", "front", (), [], ("front",), ("front", "x", "y"), ("front", "x", "x"), ("x", "front"), ["front", "x"],
    ("Front", "x"), ("FRONT", "x"), ("front ", "x"), (" front", "x"), ("up", "x"), ("", "x"), ("add", "x"),
    ("addFront", "x"), ("addsink", "x"), ("addlift", "x"), ("f", "x"), ("put", "x"), ("middle", "x"), ("out", "x"),
    ("always", "x"), ("present", "x"), ("absent", "x"), (None, "x"), (True, "x"), (False, "x"), (0, "x"), (1, "x"),
    (["front"], "x"), ({}, "x"), ({"front": 1}, "x"), (("front",), "x"), (("front", "x"), "x"), (DEEP, "x"),
    ("front", ""), ("front", "X"), ("front", "abcdefghi"), ("front", "x "), ("front", "x\n"), ("front", "x1"),
    ("front", None), ("front", True), ("front", 1), ("front", ["x"]), ("front", ("x",)), ("front", {"x": 1}),
    ("front", DEEP), ("drop", "X"), ("lift", None), (("front", "x"),), {"front": "x", "drop": "y"},
]

GOOD_OPERATION = ("front", "x")

WRONG_PROGRAMS = (
    WRONG_EVERYWHERE
    + ["a", "front", (), ("front", "x"), (("front", "x"),), {"front": "x", "drop": "y"}, ["front", "x"], ["ab"]]
    + [[operation] for operation in WRONG_OPERATIONS]
    + [[GOOD_OPERATION, operation] for operation in WRONG_OPERATIONS]
    + [[operation, GOOD_OPERATION] for operation in WRONG_OPERATIONS]
    + [[GOOD_OPERATION] * 61, [GOOD_OPERATION] * 200, [("drop", "x")] * 61]
    + [[(verb, word) for word in THIRTEEN] for verb in VERBS]
    + [[("lift", LETTERS[k % 13]) for k in range(60)], [GOOD_OPERATION] * 47 + [("sink", word) for word in THIRTEEN]]
)

WRONG_NAMES = WRONG_ROWS + [(), LETTER_WORDS[:9], LETTER_WORDS[:12], LETTER_WORDS[:20], ["x", "y"], [("x", "y")]]

# The names beside which the fences and the results are wrong.
NAMES = ("x", "y")

WRONG_FENCES = WRONG_ROWS + [
    (), ("left",), ("a", "b", "c"), LETTER_WORDS[:20], ("left", "left"), ["left", "right"], "leftright", [("a", "b")],
    ("x", "right"), ("left", "x"), ("y", "right"), ("left", "y"), ("x", "y"), ("y", "x"), ("x", "x"),
    {"left": "right"}, ("Left", "right"), ("left", "Right"), ("left", "right", "left"), (("left", "right"),),
]

# A list of rows may be empty, and each of its rows, too.
WRONG_LISTS_OF_ROWS = (
    [value for value in WRONG_EVERYWHERE if value not in ([()], [("a",)])]
    + [(), (("a", "b"),), ((), ("a",)), {("a",): ("b",)}, ("a", "b"), "ab", ["ab"], [[("a",)]], [["a"], ["b"]]]
    + [[row] for row in WRONG_ROWS]
    + [[("a", "x"), row] for row in WRONG_ROWS]
    + [[row, ("a", "x"), ()] for row in WRONG_ROWS]
)

WRONG_RESULTS = (
    WRONG_EVERYWHERE
    + [[], (), [()] * 3, [()] * 5, [()] * 200, ((),) * 4, [("left", "right")] * 2, [("left", "right")] * 6]
    + [(("left", "right"),) * 4, "abcd", ["a", "b", "c", "d"], {("a",): 1, ("b",): 2, ("c",): 3, ("d",): 4}]
    + [[("left", "right")] * at + [row] + [()] * (3 - at) for at in range(4) for row in WRONG_ROWS[at::4]]
    + [[()] * at + [LETTER_WORDS[:size]] + [()] * (3 - at) for at in range(4) for size in (11, 12, 20, 21)]
)

WRONG_NUMBERS = [value for value in WRONG_EVERYWHERE if type(value) is not int] + [
    0, -1, -8, 9, 10, 12, 100, 10 ** 999, -(10 ** 999), "1", "8", "one", [1], (1,), {1: 1}, [[8]], (), [],
]

# Texts that are near to those of programs.
NEAR_TEXTS = [
    " ", "  ", "\n", ";", "; ", "; ; ", "front", "x", "front ", " x", " front x", "front x ", "front  x", "front\tx",
    "front\nx", "front x\n", "\nfront x", "front x;", "front x; ", ";front x", "; front x", "front x;drop y",
    "front x ;drop y", "front x ; drop y", "front x;  drop y", "front x;\ndrop y", "front x\n; drop y",
    "front x;; drop y", "front x; ; drop y", "front x, drop y", "front x drop y", "front x;drop y; lift z",
    "front x; drop y;", "front x; drop y; ", "Front x", "FRONT x", "front X", "front xY", "FRONT X", "front x; Drop y",
    "frontx", "front-x", "front x y", "front x x", "x front", "up x", "add x", "middle x", "always x", "addlift x",
    "front abcdefghi", "front 1", "front x1", "front _", "front x.", "front 'x'", '"front x"', "('front', 'x')",
    "[('front', 'x')]", "[]", "front x; drop", "front; drop y", "front x; y", "front x; drop y z", "front x&drop y",
    "front x:drop y", "front x: y", "front x; drop y\r", "front x\r\ndrop y", "front `", "front {", "drop", "front;x",
    "None",
]

WRONG_TEXTS = [value for value in WRONG_EVERYWHERE if value not in ("", "front x; drop y")] + NEAR_TEXTS + [
    "; ".join(["front x"] * 61), "; ".join("lift " + letter for letter in LETTERS[:13]), "; " * 1000,
    (), [], [("front", "x")], ["front x"], ("front x",), {"front x": 1}, [["front", "x"]], ("front", "x"), [()],
]

# Values that are no meanings because of their form, and the same in front, in back and among the dropped words.
WRONG_ENTRIES = [
    None, True, 0, "", "a", "ab", "always", [], (), {}, ["a", "always"], ("a",), ("always",), ("a", "always", "b"),
    ("always", "a"), ("a", "front"), ("a", "Always"), ("a", ""), ("a", "always "), ("a", "never"), ("a", "middle"),
    ("a", None), ("a", True), ("a", False), ("a", 1), ("a", ["always"]), ("a", ("always",)), ("a", {}), ("a", DEEP),
    ("A", "always"), ("", "always"), ("abcdefghi", "always"), ("a\n", "present"), (None, "always"), (1, "absent"),
    (["a"], "always"), ({}, "always"), (("a",), "always"), (DEEP, "always"), (("a", "always"),), DEEP,
]

MISSHAPEN_MEANINGS = (
    WRONG_EVERYWHERE
    + [(), [], "a", "abc", ((),), ((), ()), ((), (), (), ()), [(), (), ()], {1: (), 2: (), 3: ()}, ("", "", "")]
    + [([], (), ()), ((), [], ()), ((), (), []), ("", (), ()), ((), "", ()), ((), (), ""), ({}, (), ()), ((), {}, ())]
    + [((), (), {}), (None, (), ()), ((), None, ()), ((), (), None), (False, (), ()), ((), 0, ()), ((), (), 0)]
    + [((), (), "a"), ((), (), "abc"), ((), (), ["a"]), ((), (), {"a": 1}), ((), (), True)]
    + [(("a", "always"), (), ()), ((), ("a", "always"), ()), ([("a", "always")], (), ()), ((), [("a", "always")], ())]
    + [((entry,), (), ()) for entry in WRONG_ENTRIES]
    + [((), (entry,), ()) for entry in WRONG_ENTRIES]
    + [((("b", "always"), entry), (), ()) for entry in WRONG_ENTRIES]
    + [((), (entry, ("b", "always")), ()) for entry in WRONG_ENTRIES]
    + [((), (), (word,)) for word in WRONG_WORDS]
    + [((), (), ("a", word)) for word in WRONG_WORDS]
    + [((), (), dropped) for dropped in [("b", "a"), ("a", "a"), ("a", "c", "b"), ("a", "b", "b"), ("a",) * 200]]
)

# Triples of the right form that break one of the four conditions, or have too many words.
INCONSISTENT_MEANINGS = [
    # At most one entry for a word that is present, and one for a word that is absent.
    ((("x", "always"), ("y", "always"), ("x", "always")), (), ()),
    ((("x", "always"), ("x", "always")), (), ()),
    ((("x", "present"), ("x", "present")), (), ()),
    ((("x", "present"), ("y", "absent"), ("x", "present")), (), ()),
    ((("x", "absent"), ("y", "absent"), ("x", "absent")), (), ()),
    ((), (("x", "absent"), ("y", "absent"), ("x", "absent")), ()),
    ((("x", "always"),), (("x", "always"),), ()),
    ((("x", "present"),), (("x", "present"),), ()),
    ((("x", "absent"),), (("x", "absent"),), ()),
    ((("x", "always"),), (("x", "present"),), ()),
    ((("x", "always"),), (("x", "absent"),), ()),
    ((("x", "present"),), (("x", "always"),), ()),
    ((("x", "absent"),), (("x", "always"),), ()),
    ((("x", "absent"), ("y", "always"), ("x", "always")), (), ()),
    ((("x", "absent"), ("y", "always"), ("x", "present")), (("x", "present"),), ()),
    ((("x", "always"),) * 200, (("y", "always"),) * 200, ()),
    # A dropped word has no entry.
    ((("x", "always"),), (), ("x",)),
    ((("x", "present"),), (), ("x",)),
    ((("x", "absent"),), (), ("x",)),
    ((), (("x", "absent"),), ("x",)),
    ((), (("x", "always"),), ("a", "x", "z")),
    # Entries that would be joined into one.
    ((("x", "absent"), ("x", "present")), (), ()),
    ((("y", "always"), ("x", "absent"), ("x", "present"), ("z", "always")), (), ()),
    ((), (("x", "present"), ("x", "absent")), ()),
    ((), (("y", "always"), ("x", "present"), ("x", "absent"), ("z", "always")), ()),
    # No order of making.
    ((("x", "present"), ("x", "absent")), (), ()),
    ((("x", "present"), ("y", "always"), ("x", "absent")), (), ()),
    ((("x", "present"), ("y", "present"), ("z", "absent"), ("x", "absent")), (), ()),
    ((), (("x", "absent"), ("x", "present")), ()),
    ((), (("x", "absent"), ("y", "always"), ("x", "present")), ()),
    ((), (("x", "absent"), ("y", "present"), ("z", "absent"), ("x", "present")), ()),
    ((("v", "present"), ("w", "absent")), (("v", "absent"), ("w", "present")), ()),
    ((("w", "present"), ("v", "absent")), (("w", "absent"), ("v", "present")), ()),
    (
        (("a", "always"), ("v", "present"), ("b", "absent"), ("w", "absent")),
        (("c", "present"), ("v", "absent"), ("d", "always"), ("w", "present"), ("e", "always")),
        ("z",),
    ),
    # Thirteen words.
    (tuple((word, "always") for word in THIRTEEN), (), ()),
    ((), tuple((word, "present") for word in THIRTEEN), ()),
    ((), (), THIRTEEN),
    ((("z", "always"),), (), TWELVE),
    ((), (("z", "absent"),), TWELVE),
    ((("y", "always"),), (("z", "absent"),), TWELVE[:11]),
]

WRONG_MEANINGS = MISSHAPEN_MEANINGS + INCONSISTENT_MEANINGS

GOOD_MEANINGS = [
    ((), (), ()),
    ((("x", "always"),), (), ()),
    ((("x", "present"),), (), ()),
    ((("x", "absent"),), (), ()),
    ((), (("x", "always"),), ()),
    ((), (("x", "present"),), ()),
    ((), (("x", "absent"),), ()),
    ((), (), ("x",)),
    ((("x", "present"),), (("x", "absent"),), ()),
    ((("x", "absent"),), (("x", "present"),), ()),
    ((("x", "absent"), ("y", "always"), ("x", "present")), (), ()),
    ((("x", "absent"), ("y", "absent"), ("x", "present")), (), ("z",)),
    ((), (("x", "present"), ("y", "always"), ("x", "absent")), ()),
    ((("w", "absent"), ("v", "present")), (("v", "absent"), ("w", "present")), ()),
    ((("v", "present"), ("w", "absent")), (("w", "present"), ("v", "absent")), ()),
    ((("v", "present"), ("w", "present")), (("w", "absent"), ("v", "absent")), ()),
    ((("v", "present"), ("w", "present")), (("v", "absent"), ("w", "absent")), ()),
    ((("v", "absent"), ("w", "absent")), (("v", "present"), ("w", "present")), ()),
    ((("front", "always"), ("present", "absent")), (("always", "always"),), ("absent", "drop")),
    ((("abcdefgh", "always"),), (("z", "present"),), ("a", "aa", "ab", "b", "zzzzzzzz")),
    (tuple((word, "always") for word in TWELVE), (), ()),
    ((), tuple((word, "absent") for word in reversed(TWELVE)), ()),
    ((), (), TWELVE),
    (tuple((word, "present") for word in TWELVE), tuple((word, "absent") for word in TWELVE), ()),
    ((("l", "always"),), (), TWELVE[:11]),
]


def one_step(row, operation):
    """What the table of the document says, verb by verb."""
    verb, word = operation
    present = word in row
    rest = tuple(other for other in row if other != word)
    if verb == "front":
        return (word,) + rest
    if verb == "back":
        return rest + (word,)
    if verb == "drop":
        return rest
    if verb == "addfront":
        return row if present else (word,) + row
    if verb == "addback":
        return row if present else row + (word,)
    if verb == "lift":
        return (word,) + rest if present else row
    return rest + (word,) if present else row


def made(operations, row):
    """What operations make of a row."""
    for operation in operations:
        row = one_step(row, operation)
    return row


def stands_for(triple, row):
    """What the document says that a meaning makes of a row."""
    front, back, dropped = triple
    valid = {"always": lambda word: True, "present": lambda word: word in row, "absent": lambda word: word not in row}
    before = [word for word, case in front if valid[case](word)]
    behind = [word for word, case in back if valid[case](word)]
    rest = [word for word in row if word not in dropped and word not in before and word not in behind]
    return tuple(before + rest + behind)


def rows_of(words):
    """All rows of some, none or all of the words."""
    return [row for size in range(len(words) + 1) for row in itertools.permutations(words, size)]


ROWS = rows_of(("x", "y", "s", "t"))


def programs_of(words, most):
    """All lists of at most so many operations with the words."""
    operations = [(verb, word) for verb in VERBS for word in words]
    return [list(found) for size in range(most + 1) for found in itertools.product(operations, repeat=size)]


def short_rows(words):
    """All rows of at most two of the words and a stranger."""
    return [row for size in range(3) for row in itertools.permutations(tuple(words) + ("stranger",), size)]


def all_shortest_programs(words, rows=ROWS):
    """All shortest programs with some of the words for everything that such programs do to the rows."""
    operations = [(verb, word) for verb in VERBS for word in words]
    found = {tuple(rows): [[]]}
    level = list(found)
    while level:
        following = {}
        for made_rows in level:
            for operation in operations:
                after = tuple(one_step(row, operation) for row in made_rows)
                if after not in found:
                    longer = [program + [operation] for program in found[made_rows]]
                    following[after] = following.get(after, []) + longer
        found.update(following)
        level = list(following)
    return found


def all_programs():
    """A shortest program with the words x and y for everything that such programs do to rows."""
    return [programs[0] for programs in all_shortest_programs(("x", "y")).values()]


def random_program(source, words, size):
    """A list of so many operations with some of the words."""
    return [(source.choice(VERBS), source.choice(words)) for _ in range(size)]


def random_row(source, words):
    """A row of some of the words, at most 20."""
    return tuple(source.sample(words, source.randint(0, min(20, len(words)))))
