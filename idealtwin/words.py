"""The words of texts and commands: what stands between single spaces."""

MOST_DIGITS = 31


def words_of(text):
    """Return the words of a text; the empty string has none."""
    return text.split(" ") if text != "" else []


def number_in(word):
    """Return the number that a word tells; None if it tells none."""
    if not word.isascii() or not word.isdigit() or len(word) > MOST_DIGITS:
        return None
    if word.startswith("0") and word != "0":
        return None
    return int(word)


def triple_in(word):
    """Return the tuple of three numbers that a word tells as a cell; None if it tells none."""
    numbers = [number_in(part) for part in word.split(":")]
    return None if len(numbers) != 3 or None in numbers else tuple(numbers)
