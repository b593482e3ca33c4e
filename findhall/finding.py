"""Finding: of which texts of a book a question holds, and where and how often it stands there."""

from findhall.asks import Row, Start, Word
from findhall.words import is_word, plain_words

# It stands for each word that a question doesn't ask for: no word is so, and no word begins so.
OTHER_WORD = " "


def asked_words(book, ask):
    if isinstance(ask, Word):
        return [ask.word]
    if isinstance(ask, Row):
        return list(ask.side_by_side)
    if isinstance(ask, Start):
        return [word for word in book.words() if word.startswith(ask.word)]
    found = []
    for kid in ask.kids():
        found.extend(asked_words(book, kid))
    return found


def row_in(book, word):
    # A question may have a longer word than any text has: the book would refuse it.
    return book.row_of(word) if is_word(word) else []


def asked_texts(book, ask):
    # A question is the same to the words of a text and to just those of them that it asks for, each at its place.
    texts = {}
    for word in sorted(set(asked_words(book, ask))):
        for number, places in row_in(book, word):
            if number not in texts:
                texts[number] = [OTHER_WORD] * book.size_of(number)
            for place in places:
                texts[number][place] = word
    return texts


def texts_in(book, ask):
    texts = asked_texts(book, ask)
    # Of all texts without one of the words that are asked for it holds alike, so this is looked at once.
    elsewhere = ask.holds([])
    numbers = []
    for number in range(book.many()):
        held = ask.holds(texts[number]) if number in texts else elsewhere
        if held:
            numbers.append(number)
    return numbers


def spans_in(book, ask, number):
    return ask.spans(plain_words(book.text_of(number)))


def counted(book, leaf):
    texts = asked_texts(book, leaf)
    counts = [(number, len(leaf.spans(texts[number]))) for number in sorted(texts)]
    return [(number, count) for number, count in counts if count > 0]
