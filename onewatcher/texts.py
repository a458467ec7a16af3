"""What texts are made of: words between spaces, names, and numbers in digits."""

MAX_NAME = 12


def words_of(line):
    """The list of the words of a line; several spaces separate like one."""
    return [word for word in line.split(" ") if word != ""]


def _is_letter(sign):
    return "a" <= sign <= "z"


def _is_digit(sign):
    return "0" <= sign <= "9"


def is_name(text):
    """True if a text is a name."""
    if not 1 <= len(text) <= MAX_NAME or not _is_letter(text[0]):
        return False
    return all(_is_letter(sign) or _is_digit(sign) for sign in text)


def number_in(text, most):
    """The number from 0 to `most` that a text writes in digits without leading zeros, or None."""
    # Too many digits are refused before they are read: Python does not read any number of them.
    if not 1 <= len(text) <= len(str(most)) or not all(_is_digit(sign) for sign in text):
        return None
    if text[0] == "0" and len(text) > 1:
        return None
    number = int(text)
    return number if number <= most else None
