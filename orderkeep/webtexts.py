"""Webs as texts: shown, and read again."""

from orderkeep.errors import NoText
from orderkeep.webs import are_things, first_wrong_tie, web_of


def show_web(web):
    lines = [" ".join(["things"] + list(web[0]))]
    for tie in web[1]:
        lines.append(" > ".join(tie))
    return "\n".join(lines)


def read_web(text):
    if not isinstance(text, str):
        raise NoText(0)
    lines = text.split("\n")
    words = lines[0].split(" ")
    things = words[1:]
    if words[0] != "things" or not are_things(things):
        raise NoText(0)
    ties = [tie_in(line) for line in lines[1:]]
    wrong = first_wrong_tie(things, ties)
    if wrong is not None:
        raise NoText(wrong + 1)
    return web_of(things, ties)


def tie_in(line):
    # None, of a line that tells no tie, is no tie of whatever web.
    words = line.split(" ")
    if len(words) != 3 or words[1] != ">":
        return None
    return (words[0], words[2])
