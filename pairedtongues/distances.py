"""How far sequences of words are from one another.

What lies near a text is told stretch by stretch: a dict from (begin, end) to
(number, words), the least number of steps from the words of the text between
the two to some sequence of words, and the first sequence so near.
"""


def distance(text, other):
    """The least number of steps from one text to the other."""
    row = list(range(len(other) + 1))
    for word in text:
        further = [row[0] + 1]
        for place, other_word in enumerate(other):
            exchanged = row[place] if word == other_word else row[place] + 1
            further.append(min(exchanged, row[place + 1] + 1, further[place] + 1))
        row = further
    return row[len(other)]


def near_nothing(text):
    """What lies near the stretches without words, with no words of its own."""
    return {(place, place): (0, ()) for place in range(len(text) + 1)}


def near_word(text, word):
    """How near this one word lies to the stretches of the text."""
    found = {}
    for begin in range(len(text) + 1):
        for end in range(begin, len(text) + 1):
            # One word stands for a word of the stretch or is put in, all others of the stretch are left out.
            number = max(end - begin, 1)
            found[(begin, end)] = (number - 1 if word in text[begin:end] else number, (word,))
    return found


def near_both(text, near, further):
    """What lies near, the words of the second one behind those of the first."""
    found = {}
    for (begin, middle), (number, words) in near.items():
        for end in range(middle, len(text) + 1):
            further_number, further_words = further[(middle, end)]
            entry = (number + further_number, (*words, *further_words))
            found[(begin, end)] = min(entry, found.get((begin, end), entry))
    return found


def nearer_of(near, further):
    """For each stretch the nearer one of the two."""
    return {stretch: min(entry, further[stretch]) for stretch, entry in near.items()}
