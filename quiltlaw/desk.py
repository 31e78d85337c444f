"""A desk that keeps a grammar and answers rows of text."""

from quiltlaw.best import first_tree
from quiltlaw.counts import count_trees, tree_at
from quiltlaw.errors import NoNumber, NoRow
from quiltlaw.grammars import Grammar
from quiltlaw.joining import turned_grammar
from quiltlaw.pictures import read_picture, shown
from quiltlaw.rules import only_of
from quiltlaw.sizes import pictures_of
from quiltlaw.texts import FIGURES, read_rule
from quiltlaw.thinning import thinned
from quiltlaw.trees import cost_of, laid
from quiltlaw.treetexts import read_tree, shown_tree

FIRST_SIGNS = "a"
FIRST_START = "S"
MOST_FIGURES = 3
# The rows that are a word, one blank and any text.
TEXT_WORDS = ("signs", "start", "rule", "make", "lay")
# The rows that are a word and numbers, with the least and the greatest of each.
RANGES = {
    "drop": ((0, 999),),
    "count": ((1, 6), (1, 6), (1, 16)),
    "pick": ((1, 6), (1, 6), (1, 16), (0, 999)),
    "list": ((1, 6), (1, 6)),
    "turn": ((0, 7),),
    "thin": (),
}


class Desk:
    """A grammar, changed and asked by rows."""

    def __init__(self):
        self.grammar = Grammar(FIRST_SIGNS, FIRST_START, [])

    def told(self, row):
        """The answer to a row; what is refused leaves all as it was."""
        answer = answered(self.grammar, row)
        self.grammar = answer[0]
        return answer[1]


def answered(grammar, row):
    """The grammar that is kept behind a row, and the answer to the row. NoRow, then as the row is refused."""
    pieces = row.partition(" ")
    if pieces[0] in TEXT_WORDS and pieces[1] != "":
        return by_text(grammar, pieces[0], pieces[2])
    words = row.split(" ")
    return by_numbers(grammar, words[0], read_numbers(words))


def by_text(grammar, word, text):
    """What answered tells of a row of a word and any text."""
    if word == "signs":
        return (Grammar(text, FIRST_START, []), word + " " + text)
    if word == "start":
        return (Grammar(grammar.signs, text, grammar.rules()), word + " " + text)
    if word == "rule":
        rules = grammar.rules() + [read_rule(text)]
        return (Grammar(grammar.signs, grammar.start, rules), "rule " + str(grammar.many()))
    if word == "make":
        return (grammar, making(grammar, text))
    return (grammar, laying(grammar, text))


def making(grammar, text):
    """By which tree the start makes a picture, and at what cost. NoPicture, TooMany."""
    tree = first_tree(grammar, read_picture(text, grammar.signs))
    if tree is None:
        return "not made"
    return "made " + str(cost_of(grammar, tree)) + " by " + shown_tree(tree)


def laying(grammar, text):
    """What a tree lays out, of which name, and at what cost. NoWord, NoTree."""
    tree = read_tree(grammar, text)
    picture = shown(laid(grammar, tree))
    return grammar.rule(tree[0]).name + " makes " + picture + " at " + str(cost_of(grammar, tree))


def read_numbers(words):
    """The numbers behind the first word of a row. NoRow."""
    if words[0] not in RANGES or len(words) - 1 != len(RANGES[words[0]]):
        raise NoRow("no row has this word and so many behind it")
    numbers = []
    for word, bounds in zip(words[1:], RANGES[words[0]]):
        number = read_number(word)
        if number < bounds[0] or number > bounds[1]:
            raise NoRow("a number is out of its range")
        numbers.append(number)
    return numbers


def read_number(word):
    """The number of a word of one to three figures, the first no 0 but for 0 alone. NoRow."""
    if not 1 <= len(word) <= MOST_FIGURES or not only_of(word, FIGURES):
        raise NoRow("a number has one to three figures")
    if word.startswith("0") and word != "0":
        raise NoRow("a number does not begin with 0")
    return int(word)


def by_numbers(grammar, word, numbers):
    """What answered tells of a row of a word and numbers."""
    if word == "drop":
        return dropping(grammar, numbers[0])
    if word == "turn":
        return (turned_grammar(grammar, numbers[0]), "turned " + str(numbers[0]))
    if word == "thin":
        thin = thinned(grammar)
        return (thin, "rules " + str(thin.many()))
    if word == "list":
        return (grammar, listing(grammar, numbers[0], numbers[1]))
    if word == "count":
        many = count_trees(grammar, grammar.start, numbers[0], numbers[1], numbers[2])
        return (grammar, "trees " + str(many))
    tree = tree_at(grammar, grammar.start, numbers[0], numbers[1], numbers[2], numbers[3])
    return (grammar, shown_tree(tree))


def dropping(grammar, number):
    """The grammar without a rule, and this rule as a text. NoNumber."""
    if number >= grammar.many():
        raise NoNumber("no rule has this number")
    rules = grammar.rules()
    gone = rules.pop(number)
    return (Grammar(grammar.signs, grammar.start, rules), gone.told())


def listing(grammar, rows, columns):
    """How many pictures of a size the start makes, and each with its cost. TooMany."""
    found = pictures_of(grammar, grammar.start, rows, columns)
    words = ["pictures", str(len(found))]
    for picture, cost in found:
        words.extend([shown(picture), str(cost)])
    return " ".join(words)
