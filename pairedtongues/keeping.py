"""Whether the two meanings of a rule are alike whatever stands for its holes.

Terms stand for all that a hole can be. A hole of the kind set is the set of
the things with a mark of its own, called by the hole's number. A hole of the
kind part is asked of one set by each meaning at most: where the two sets are
equal it holds of both or of none, where they are not it may hold of just one.
"""

from pairedtongues.terms import with_holes
from pairedtongues.truths import Worlds, cells_of, worlds_with

# For the kinds part and truth a term that holds always, and one that never does.
ALWAYS = {"part": ("no", ("none",)), "truth": ("is", ("no", ("none",)), ("none",))}
NEVER = {"part": ("some", ("none",)), "truth": ("is", ("some", ("none",)), ("none",))}

# The mark of the set of which the meanings of a head of the kind part are asked; no hole has this number.
ASKED = -1


def mark_names(term):
    """The names of the marks in a meaning, each as often as it stands there."""
    if term[0] == "mark":
        return [term[1]]
    if term[0] == "hole":
        return []
    return [name for part in term[1:] for name in mark_names(part)]


def meant_marks(meanings, head_kind, hole_kinds):
    """The tuple of all the marks that are looked at."""
    names = sorted({name for meaning in meanings for name in mark_names(meaning)})
    holes = [number for number, kind in enumerate(hole_kinds) if kind == "set"]
    return (*names, *holes, ASKED) if head_kind == "part" else (*names, *holes)


def meanings_alike(meanings, head_kind, hole_kinds, marks):
    """Whether the left meaning and the right one are alike in all worlds of these marks."""
    own = [("mark", number) if kind == "set" else ("hole", number) for number, kind in enumerate(hole_kinds)]
    left, right = [with_holes(meaning, own) for meaning in meanings]
    if head_kind == "set":
        return cells_of(left, marks) == cells_of(right, marks)
    if head_kind == "part":
        left, right = [("is", part, ("mark", ASKED)) for part in (left, right)]
    worlds = Worlds(marks, worlds_with(len(marks)))
    for left_worths, right_worths, where in all_choices(worlds, left, right, hole_kinds):
        left_true = worlds.where_true(with_holes(left, left_worths))
        right_true = worlds.where_true(with_holes(right, right_worths))
        if where & (left_true ^ right_true):
            return False
    return True


def all_choices(worlds, left, right, hole_kinds):
    """All (worths on the left, worths on the right, where the holes can be so); a worth for each hole."""
    found = [((), (), worlds.every)]
    for number, kind in enumerate(hole_kinds):
        choices = hole_choices(worlds, kind, set_asked(left, number), set_asked(right, number))
        found = [
            ((*lefts, worth), (*rights, right_worth), where & further)
            for lefts, rights, where in found for worth, right_worth, further in choices
        ]
    return found


def hole_choices(worlds, kind, asked, right_asked):
    """All (worth on the left, worth on the right, where it can be so) of one hole.

    The sets are those of which the meanings ask it, None where one does not.
    """
    if kind == "set":
        # Its mark stands in its place already.
        return [(None, None, worlds.every)]
    choices = [(ALWAYS[kind], ALWAYS[kind], worlds.every), (NEVER[kind], NEVER[kind], worlds.every)]
    if asked is not None and right_asked is not None:
        unequal = worlds.some_in(cells_of(asked, worlds.marks) ^ cells_of(right_asked, worlds.marks))
        choices.extend([(ALWAYS[kind], NEVER[kind], unequal), (NEVER[kind], ALWAYS[kind], unequal)])
    return choices


def set_asked(term, number):
    """The set of which a truth term asks this hole of the kind part, None if it asks it of none."""
    if term[0] == "hole":
        return None
    if term[0] == "is":
        return term[2] if has_hole(term[1], number) else None
    found = [set_asked(part, number) for part in term[1:]]
    sets = [asked for asked in found if asked is not None]
    return sets[0] if sets else None


def has_hole(term, number):
    """Whether the hole stands in the term."""
    if term[0] in ("hole", "mark"):
        return term == ("hole", number)
    return any([has_hole(part, number) for part in term[1:]])
