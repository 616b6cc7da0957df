"""NUMBERS written by figures."""

FIGURES = 60


def number_read(word, most):
    """The NUMBER that a word writes by at most so many figures, None where it writes none."""
    if len(word) > most or not word.isascii() or not word.isdigit():
        return None
    if word[0] == "0" and word != "0":
        return None
    return int(word)
