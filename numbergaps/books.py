"""Books: lists of texts, one for each deed of an office, and what became of them."""

from numbergaps.errors import NoCount, NoDesk, NoNumber, NoRoom, NotThere, Short, Stopped, Twice
from numbergaps.office import PAPER, SPOILT, Office

BAD_ROW = "BadRow"
DONE = "done"

MOST_FIGURES = 60
FIGURES = "0123456789"

# How many numbers follow the name of a deed; behind that of a report there are words, too.
NUMBERS = {"lend": 2, "back": 1, "stop": 1, "found": 1, "settle": 2}
REPORT = "report"


def played(top, desks, book):
    """Does the deeds of the book in a new office: (a text for each deed, the office)."""
    office = Office(top, desks)
    answers = []
    for text in book:
        answers.append(_answer(office, text.split(" ")))
    return (answers, office)


def _answer(office, words):
    """Does the deed of these words, if it is one, and tells what became of it."""
    if not _is_deed(words):
        return BAD_ROW
    try:
        return _done(office, words)
    except NoDesk:
        return "NoDesk"
    except Stopped:
        return "Stopped"
    except NoRoom:
        return "NoRoom"
    except NoCount:
        return "NoCount"
    except Short:
        return "Short"
    except NoNumber:
        return "NoNumber"
    except Twice:
        return "Twice"
    except NotThere:
        return "NotThere"


def _done(office, words):
    """Does a deed and tells its answer."""
    deed = words[0]
    number = int(words[1])
    if deed == "lend":
        first, last = office.lend(number, int(words[2]))
        return f"{first}-{last}"
    if deed == REPORT:
        office.report(number, words[2:])
    elif deed == "back":
        office.back(number)
    elif deed == "stop":
        office.stop(number)
    elif deed == "found":
        office.found(number)
    else:
        office.settle(number, int(words[2]))
    return DONE


def _is_deed(words):
    """Whether these words make a deed; two blanks side by side leave an empty word, which is none."""
    if words[0] == REPORT:
        return len(words) > 2 and _is_number(words[1]) and _are_reported(words[2:])
    if NUMBERS.get(words[0]) != len(words) - 1:
        return False
    return all([_is_number(word) for word in words[1:]])


def _are_reported(words):
    """Whether a desk may report these words."""
    return all([word in (PAPER, SPOILT) for word in words])


def _is_number(word):
    """Whether the word is a number without a sign and without a needless 0."""
    if len(word) < 1 or len(word) > MOST_FIGURES:
        return False
    if word[0] == "0" and len(word) > 1:
        return False
    return all([figure in FIGURES for figure in word])
