"""Webs as texts."""

from leanwebs.errors import BadLine, BadPull, BadRatio, BadTie, TooMany
from leanwebs.ratios import ratio_of
from leanwebs.webs import Web

FIGURES = "0123456789"
CHUNK = 1000000000000000000


def figures_of(number):
    """Return the decimal figures of an integer of any size."""
    # Python refuses to turn integers of several thousand figures into a string in one go.
    rest = abs(number)
    text = ""
    while rest >= CHUNK:
        rest, low = divmod(rest, CHUNK)
        text = str(low).zfill(18) + text
    return ("-" if number < 0 else "") + str(rest) + text


def web_text(web):
    """Return the web as a string, one line for the places and one for each tie."""
    lines = [f"places {web.many}"]
    for u, v, (p, q) in web.ties:
        lines.append(f"{u} {v} {figures_of(p)}/{figures_of(q)}")
    return "".join([line + "\n" for line in lines])


def numeral(word):
    """Return the number of a numeral, None for a word that is none."""
    if not word or not all([figure in FIGURES for figure in word]):
        return None
    number = 0
    for figure in word:
        number = number * 10 + FIGURES.index(figure)
    return number


def told_ratio(word):
    """Return the two parts of a word p/q or p, None for a word that is neither."""
    above, stroke, below = word.partition("/")
    top = numeral(above[1:] if above.startswith("-") else above)
    bottom = numeral(below) if stroke else 1
    if top is None or bottom is None:
        return None
    return (-top if above.startswith("-") else top, bottom)


def first_web(words, number):
    """Return the web without ties that the words of the first line tell."""
    if len(words) != 2 or words[0] != "places":
        raise BadLine(number)
    many = numeral(words[1])
    if many is None or not 1 <= many <= Web.most_places:
        raise BadLine(number)
    return Web(many, ())


def with_line(web, words, number):
    """Return the web with the tie that the words of a further line tell."""
    if len(words) != 3:
        raise BadLine(number)
    u = numeral(words[0])
    v = numeral(words[1])
    pull = told_ratio(words[2])
    if u is None or v is None or pull is None:
        raise BadLine(number)
    try:
        return web.with_tie(u, v, ratio_of(pull))
    except (BadRatio, BadTie, BadPull, TooMany) as e:
        raise BadLine(number) from e


def web_from(text):
    """Return the web that the text tells."""
    web = None
    for at, line in enumerate(text.split("\n")):
        words = [word for word in line.split(" ") if word]
        if words and web is None:
            web = first_web(words, at + 1)
        elif words:
            web = with_line(web, words, at + 1)
    if web is None:
        raise BadLine(0)
    return web
