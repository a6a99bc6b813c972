"""How integers, values and wheres are written by words."""


def read_number(word):
    """The integer from 0 that a word writes, or None."""
    if not word.isascii() or not word.isdigit():
        return None
    if len(word) > 1 and word[0] == "0":
        return None
    return int(word)


def read_numbers(words):
    """The tuple of the integers from 0 that a list of words writes, or None if one word writes none."""
    numbers = [read_number(word) for word in words]
    return None if None in numbers else tuple(numbers)


def read_where(words):
    """The where that a list of words writes, or None; whether its values are values is left to the caller."""
    if words == ["all"]:
        return ("all",)
    if len(words) == 2 and words[0] in ("left", "right"):
        values = read_numbers(words[1].split(","))
        return None if values is None else (words[0], values)
    if len(words) == 3 and words[0] == "cell":
        values = read_numbers(words[1:])
        return None if values is None else ("cell", *values)
    return None


def number_words(numbers):
    """The list of the words of some integers."""
    return [str(number) for number in numbers]


def write_where(where):
    """The words of a where."""
    if where[0] == "all":
        return "all"
    if where[0] == "cell":
        return f"cell {where[1]} {where[2]}"
    values = ",".join(number_words(where[1]))
    return f"{where[0]} {values}"
