"""The least machine, learnt from a function that answers what words weigh."""

from weighwalk.least import free_words, least_of
from weighwalk.machines import longer, words
from weighwalk.spans import need_field
from weighwalk.tables import column_at


def answer(known, ask, word):
    if word not in known:
        known[word] = ask(word)
    return known[word]


def learnt(kind, letters, ask, most):
    need_field(kind)
    known = {}
    # With so many rooms, a sum of rows that holds with each of these behind holds with all words behind.
    endings = words(letters, most - 1)

    def row_of(word):
        return tuple([answer(known, ask, word + ending) for ending in endings])

    def grown(last):
        return [(word, row_of(word)) for word in longer([pair[0] for pair in last], letters)]

    found = free_words(kind, row_of(""), grown)
    rows = [row for word, row in found]
    longer_rows = [[row_of(word + letter) for word, row in found] for letter in letters]
    # The first of the endings is the empty word.
    return least_of(kind, letters, rows, longer_rows, column_at(rows, 0))
