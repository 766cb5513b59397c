"""Numbers and ways as texts."""

FIGURES = "0123456789"


def read_number(text, most_figures):
    """The number that a text of so many figures at most writes, without a nought ahead; None of any other text."""
    figures = text.removeprefix("-")
    # Python reads no number of very many figures.
    if not 1 <= len(figures) <= most_figures or not all([sign in FIGURES for sign in figures]):
        return None
    number = int(text)
    return number if str(number) == text else None


def show_way(way):
    """The sign of a way."""
    return "+" if way == 1 else "-"


def read_way(text):
    """The way that a sign stands for; None of any other text."""
    if text == "+":
        return 1
    return -1 if text == "-" else None
