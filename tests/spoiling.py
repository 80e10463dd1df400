"""Texts spoilt in many ways, and the row of them that must be refused."""


def spoilt(dice, text, signs, words):
    """The text with something otherwise: rows, signs or a word."""
    rows = text.split("\n")
    one, other = dice.randrange(len(rows)), dice.randrange(len(rows))
    at = dice.randrange(len(rows[one]) + 1)
    way = dice.randrange(7)
    if way == 0:
        rows[one], rows[other] = rows[other], rows[one]
    elif way == 1:
        rows.insert(other, rows[one])
    elif way == 2:
        del rows[one]
    elif way == 3:
        rows[one] = rows[one][:at] + dice.choice(signs) + rows[one][at:]
    elif way == 4:
        rows[one] = rows[one][:at] + rows[one][at + 1:]
    elif way == 5:
        parts = rows[one].split(" ")
        parts[dice.randrange(len(parts))] = dice.choice(words)
        rows[one] = " ".join(parts)
    else:
        rows.insert(one, dice.choice(words))
    return "\n".join(rows)


def bad_row(text, is_text):
    """The first row up to which the rows are no such text, by is_text; None where all are one."""
    rows = text.split("\n")
    for at in range(len(rows)):
        if not is_text(rows[:at + 1]):
            return at
    return None


def plain_number(word):
    """The number of a word, where it's written as Python writes it; else None."""
    try:
        return int(word) if str(int(word)) == word else None
    except ValueError:
        return None
