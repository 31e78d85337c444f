"""Trees written and read."""

from quiltlaw.errors import NoWord
from quiltlaw.trees import MOST_NUMBERS, MOST_WITHIN, grown, numbers_in


def shown_tree(tree):
    """The tree written as its numbers, one blank between."""
    return " ".join([str(number) for number in numbers_in(tree)])


def read_tree(grammar, text):
    """The tree that a text is by a grammar. NoWord with the first wrong word."""
    words = text.split(" ")
    numbers_by_word = {}
    for number in range(grammar.many()):
        numbers_by_word[str(number)] = number
    numbers = []
    # How deep each tree that is still wanted lies, the next one last.
    wanted = [1]
    for at, word in enumerate(words):
        if wanted == [] or word not in numbers_by_word or at >= MOST_NUMBERS:
            raise NoWord(at)
        depth = wanted.pop()
        if depth > MOST_WITHIN:
            raise NoWord(at)
        numbers.append(numbers_by_word[word])
        for part in grammar.rule(numbers[at]).parts():
            wanted.append(depth + 1)
    if wanted != []:
        raise NoWord(len(words))
    return grown(grammar, numbers)
