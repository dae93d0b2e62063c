"""Integers in texts, in just one writing: no zero ahead, a minus if they are below 0."""

DIGITS = "0123456789"

# No number in a text has more digits; int itself would fail with thousands of them.
MOST_DIGITS = 9


def read_number(text, least, greatest):
    """The integer that the text writes, from the least to the greatest one; None if it is none in just this writing."""
    digits = text[1:] if text.startswith("-") else text
    if digits == "" or len(digits) > MOST_DIGITS or not all([sign in DIGITS for sign in digits]):
        return None
    number = int(text)
    if str(number) != text or not least <= number <= greatest:
        return None
    return number


def read_numbers(words, limits):
    """The integers that the words write, each within its limits; None if one is wrong, or there are too many or few."""
    if len(words) != len(limits):
        return None
    numbers = tuple([read_number(word, least, greatest) for word, (least, greatest) in zip(words, limits)])
    return None if None in numbers else numbers
