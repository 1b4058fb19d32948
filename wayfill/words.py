"""The bounds, alphabets, words, weights and the word order."""

from wayfill.errors import BadLetters, BadText, BadWeights, BadWord, TooLong

LETTERS = 6
RULES = 12
SIDE = 8
WEIGHT = 99
WORD = 32
WAY = 120
MOVES = 400
SQUARES = 40
OVERLAPS = 200
WORDS = 400


def is_alphabet(letters):
    """Whether the text is an alphabet."""
    if not 1 <= len(letters) <= LETTERS:
        return False
    if len(set(letters)) != len(letters):
        return False
    return all(["a" <= letter <= "z" for letter in letters])


def check_letters(letters):
    """Raise the error of a text that is not an alphabet."""
    if not is_alphabet(letters):
        raise BadLetters(letters)


def are_weights(letters, weights):
    """Whether the list weighs each letter."""
    return len(weights) == len(letters) and all([1 <= weight <= WEIGHT for weight in weights])


def check_weights(letters, weights):
    """Raise the error of a list that does not weigh each letter."""
    if not are_weights(letters, weights):
        raise BadWeights()


def has_letters_only(letters, word):
    """Whether each character of the text is a letter of the alphabet."""
    return all([letter in letters for letter in word])


def check_word(letters, word):
    """Raise the errors of a text that is to be a word."""
    if not has_letters_only(letters, word):
        raise BadWord(word)
    if len(word) > WORD:
        raise TooLong()


def is_word(letters, word):
    """Whether the text is a word of at most 32 letters."""
    if not is_alphabet(letters):
        return False
    return has_letters_only(letters, word) and len(word) <= WORD


def order_key(letters, weights, word):
    """What the word order compares: the weight, then the letters by their order."""
    ranks = [letters.index(letter) for letter in word]
    return sum([weights[rank] for rank in ranks]), ranks


def word_weight(letters, weights, word):
    """The sum of the weights of the letters."""
    check_letters(letters)
    check_weights(letters, weights)
    check_word(letters, word)
    return order_key(letters, weights, word)[0]


def compare_words(letters, weights, one, other):
    """-1, 0 or 1 as the first word is lesser, equal or greater."""
    check_letters(letters)
    check_weights(letters, weights)
    check_word(letters, one)
    check_word(letters, other)
    if one == other:
        return 0
    if order_key(letters, weights, one) < order_key(letters, weights, other):
        return -1
    return 1


def sort_words(letters, weights, words):
    """The words in ascending order."""
    check_letters(letters)
    check_weights(letters, weights)
    for word in words:
        check_word(letters, word)
    keyed = sorted([(order_key(letters, weights, word), word) for word in words])
    return [word for key, word in keyed]


def stands_at(part, word, place):
    """Whether the part stands in the word at the place."""
    # A slice behind the end is empty and would equal the empty part.
    if not 0 <= place <= len(word) - len(part):
        return False
    return word[place:place + len(part)] == part


def places_of(part, word):
    """The places at which the part stands in the word."""
    return [place for place in range(len(word) + 1) if stands_at(part, word, place)]


def format_word(word):
    """The written form of the word."""
    return word or "-"


def read_word(letters, text, at):
    """The word with this written form, in the piece or line with the number `at`."""
    if text == "-":
        return ""
    if text == "" or not is_word(letters, text):
        raise BadText(at)
    return text


def parse_word(letters, text):
    """The word with this written form."""
    check_letters(letters)
    return read_word(letters, text, 1)


def read_number(text, digits):
    """The number that the text writes in at most so many digits, or None."""
    if not 1 <= len(text) <= digits:
        return None
    if not all([character in "0123456789" for character in text]):
        return None
    if text[0] == "0" and text != "0":
        return None
    return int(text)
