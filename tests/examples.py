"""Books that the tests use, and ways to change one part of them."""

E_TEXT = """\
feature number one many
marks black cat
sort clause truth /
sort phrase part number / number
sort noun set number / number
sort quality set / number
start clause
rule all phrase one / many
hole noun one / many
left every 0
right 0 olu
leftmeans all 0
rightmeans all 0
rule some phrase N / N
hole noun N / N
left some 0
right un 0
leftmeans some 0
rightmeans some 0
rule cat noun one / one
left cat
right mir
leftmeans mark cat
rightmeans mark cat
rule cat2 noun one / many
left cat
right miro
leftmeans mark cat
rightmeans mark cat
rule cats noun many / many
left cats
right miro
leftmeans mark cat
rightmeans mark cat
rule black quality / one
left black
right sen
leftmeans mark black
rightmeans mark black
rule black2 quality / many
left black
right seni
leftmeans mark black
rightmeans mark black
rule is clause /
hole phrase one / M
hole quality / M
left 0 is 1
right 1 0
leftmeans is 0 1
rightmeans is 0 1
rule are clause /
hole phrase many / M
hole quality / M
left 0 are 1
right 1 0
leftmeans is 0 1
rightmeans is 0 1"""

E_ROWS = E_TEXT.split("\n")

H0 = ("hole", 0)
H1 = ("hole", 1)
CAT = ("mark", "cat")
BLACK = ("mark", "black")
ONE = ("one",)
MANY = ("many",)

E = (
    (("number", ("one", "many")),),
    ("black", "cat"),
    (
        ("clause", "truth", (), ()),
        ("phrase", "part", ("number",), ("number",)),
        ("noun", "set", ("number",), ("number",)),
        ("quality", "set", (), ("number",)),
    ),
    "clause",
    (
        ("all", ("phrase", ONE, MANY), (("noun", ONE, MANY),), ("every", 0), (0, "olu"), ("all", H0), ("all", H0)),
        ("some", ("phrase", ("N",), ("N",)), (("noun", ("N",), ("N",)),), ("some", 0), ("un", 0),
         ("some", H0), ("some", H0)),
        ("cat", ("noun", ONE, ONE), (), ("cat",), ("mir",), CAT, CAT),
        ("cat2", ("noun", ONE, MANY), (), ("cat",), ("miro",), CAT, CAT),
        ("cats", ("noun", MANY, MANY), (), ("cats",), ("miro",), CAT, CAT),
        ("black", ("quality", (), ONE), (), ("black",), ("sen",), BLACK, BLACK),
        ("black2", ("quality", (), MANY), (), ("black",), ("seni",), BLACK, BLACK),
        ("is", ("clause", (), ()), (("phrase", ONE, ("M",)), ("quality", (), ("M",))),
         (0, "is", 1), (1, 0), ("is", H0, H1), ("is", H0, H1)),
        ("are", ("clause", (), ()), (("phrase", MANY, ("M",)), ("quality", (), ("M",))),
         (0, "are", 1), (1, 0), ("is", H0, H1), ("is", H0, H1)),
    ),
)

# No features, no marks, one sort, one rule: the least that a book can have.
BARE_TEXT = """\
marks
sort s set /
start s
rule r s /
left a
right a
leftmeans none
rightmeans none"""

BARE = ((), (), (("s", "set", (), ()),), "s", (("r", ("s", (), ()), (), ("a",), ("a",), ("none",), ("none",)),))

# Every size is the greatest that the document allows.
GREAT_FEATURES = (
    ("abcdefghijkl", ("a1", "b1", "c1")),
    ("f2", ("a1", "b2", "c2")),
    ("f3", ("a3", "b3", "c3")),
)
GREAT_SORTS = (
    ("top", "truth", ("f2", "f2", "f3"), ("f3", "f2", "f3")),
    ("part1", "part", ("abcdefghijkl",), ()),
    ("set1", "set", (), ("f2", "f3", "f2")),
    ("set2", "set", (), ()),
    ("part2", "part", ("f2",), ("f2",)),
    ("s6", "set", (), ()),
    ("s7", "set", (), ()),
    ("s8", "truth", ("f3",), ("f3",)),
)
GREAT_MEANING = (
    "and",
    ("deny", ("deny", ("is", H0, H1))),
    ("is", ("or", ("all", ("hole", 2)), ("hole", 3)), ("mark", "abcdefghijkl")),
)
OTHER_MEANING = (
    "or",
    ("deny", ("deny", ("is", ("hole", 3), H1))),
    ("is", ("and", ("more", ("hole", 2)), H0), ("mark", "b")),
)


def great_rule(name):
    """A rule in which each size is the greatest."""
    return (
        name,
        ("top", ("A", "b2", "B"), ("B", "A", "a3")),
        (("part1", ("C",), ()), ("set1", (), ("A", "B", "a1")), ("set2", (), ()), ("part2", ("c2",), ("A",))),
        (3, "a", 1, 0, "abcdefghijkl", 2),
        ("z9", 0, 2, 1, 3, "z9"),
        GREAT_MEANING,
        OTHER_MEANING,
    )


GREAT = (
    GREAT_FEATURES,
    ("abcdefghijkl", "b"),
    GREAT_SORTS,
    "top",
    tuple(great_rule(f"r{number}") for number in range(24)),
)


# Left and right differ in every part, so that it shows what turned exchanges.
LEANING_TEXT = """\
feature case nom acc
feature number one many
marks cat
sort s truth case / number number
sort n set number /
start s
rule join s nom / N many
hole n N /
hole s acc / one N
left 0 1 big
right of 1 0
leftmeans and 1 is some mark cat 0
rightmeans deny 1
rule cat n one /
left cat
right mir mir
leftmeans mark cat
rightmeans not none"""

LEANING_TURNED_TEXT = """\
feature case nom acc
feature number one many
marks cat
sort s truth number number / case
sort n set / number
start s
rule join s N many / nom
hole n / N
hole s one N / acc
left of 1 0
right 0 1 big
leftmeans deny 1
rightmeans and 1 is some mark cat 0
rule cat n / one
left mir mir
right cat
leftmeans not none
rightmeans mark cat"""


def exchanged(thing, path, entry):
    """The nested tuple with this entry at the path."""
    if not path:
        return entry
    at = path[0]
    return thing[:at] + (exchanged(thing[at], path[1:], entry),) + thing[at + 1:]


def entry_at(thing, path):
    """What stands at the path in the nested tuple."""
    for at in path:
        thing = thing[at]
    return thing


def all_paths(thing, path=()):
    """The paths of all parts of the nested tuple, its own first."""
    found = [path]
    if isinstance(thing, tuple):
        for at, part in enumerate(thing):
            found.extend(all_paths(part, path + (at,)))
    return found


class Nasty:
    """An object that answers no question that Python asks it."""

    def __eq__(self, other):
        raise RuntimeError("not to be compared")

    def __ne__(self, other):
        raise RuntimeError("not to be compared")

    def __lt__(self, other):
        raise RuntimeError("not to be compared")

    def __hash__(self):
        raise RuntimeError("not to be hashed")

    def __len__(self):
        raise RuntimeError("not to be measured")

    def __iter__(self):
        raise RuntimeError("not to be iterated")

    def __getitem__(self, at):
        raise RuntimeError("not to be indexed")

    def __bool__(self):
        raise RuntimeError("not to be tested")


def deep_tuple(deep):
    """A tuple nested so deep."""
    thing = ()
    for _ in range(deep - 1):
        thing = (thing,)
    return thing


def strange_things():
    """Objects that stand in no book anywhere."""
    circle = []
    circle.append(circle)
    return [
        None, True, False, -1, 4, 24, 10 ** 59, "", " ", "?", "A b", "AB", "A1", "1a", "0", "/", "a" * 13, "\n",
        "a\n", "caf\u00e9", "\u0663", "\u00aa", "\ud800", b"", b"cat", [], {}, set(), frozenset(), object(), Nasty(),
        circle, (circle,), (Nasty(),), (None,), ((),), deep_tuple(200), len, Nasty, range(3), NotImplemented, ...,
        bytearray(b"a"), iter(()), (part for part in ()), 1j,
    ]
