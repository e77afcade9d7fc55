"""The greatest sizes of what books and texts are made of, and of what is listed."""

MOST_LETTERS = 12
MOST_WORDS = 8
MOST_FEATURES = 3
MOST_VALUES = 3
MOST_MARKS = 2
MOST_SORTS = 8
MOST_SORT_FEATURES = 3
MOST_RULES = 24
MOST_HOLES = 4
MOST_VARIABLES = 3
MOST_ITEMS = 6
MOST_TERMS = 12
MOST_DEPTH = 5
MOST_CLOSED_TERMS = 300
MOST_CLOSED_DEPTH = 80
MOST_GIVEN_TERMS = 5
MOST_THINGS = 2
MOST_MEANT_MARKS = 3
MOST_TREES = 500
MOST_TEXTS = 500
MOST_EXAMPLES = 5
MOST_EXAMPLE_PAPERS = 200
MOST_WAYS = 2000
MOST_DEEDS = 40
MOST_ENTRIES = 2000

# A node without words has two holes or more, one with one hole has a word: so
# a tree whose text has eight words has at most fifteen nodes.
MOST_NODES = 15
