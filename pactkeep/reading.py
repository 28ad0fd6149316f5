"""How a meeting is read from a text."""

from pactkeep.errors import NoText
from pactkeep.things import HIGHEST_PAY, LOWEST_PAY, is_meeting


def read(text):
    words = text.split(" ")
    if ":" not in words:
        raise NoText("no colon stands by itself")
    middle = words.index(":")
    deeds = numbers_of(words[:middle])
    pay = tuple([numbers_of(word.split(",")) for word in words[middle + 1:]])
    if not is_meeting((deeds, pay)):
        raise NoText("the numbers are no meeting's")
    return (deeds, pay)


def numbers_of(words):
    return tuple([number_of(word) for word in words])


def number_of(word):
    # int would take other writings of a number too, such as 01, +1 and -0. Numbers of deeds lie within those of pays.
    for number in range(LOWEST_PAY, HIGHEST_PAY + 1):
        if str(number) == word:
            return number
    raise NoText("a word is no number of a meeting")
