"""Stores whose offices multiply the elements of a group from the left and from the right."""

from itertools import permutations

from sharedunseen.checks import check_number
from sharedunseen.errors import InvalidNumber, Refused
from sharedunseen.groups import check_shares
from sharedunseen.stores import MOST_OPERATIONS, Store

LETTERS = "abcdefghijklmnopqrstuvwxyz"
MOST_CARDS = 5


def group_store(table, lefts, rights):
    """The store in which office 0 multiplies shares by `lefts`, and office 1 by `rights`."""
    check_shares(table, lefts)
    check_shares(table, rights)
    if len(lefts) + len(rights) > MOST_OPERATIONS:
        raise Refused("many")
    left = [silent("l" + two_letters(at), table[share]) for at, share in enumerate(lefts)]
    right = [silent("r" + two_letters(at), [row[share] for row in table]) for at, share in enumerate(rights)]
    return Store(len(table), (tuple(left), tuple(right)))


def two_letters(number):
    """The two letters that number an operation."""
    return LETTERS[number // len(LETTERS)] + LETTERS[number % len(LETTERS)]


def silent(name, ends):
    """The operation with these ends that always answers 0."""
    return (name, tuple(ends), (0,) * len(ends))


def pack(many):
    """The store of a pack of cards, in which places and cards are exchanged."""
    check_number(many, MOST_CARDS + 1, "many")
    if many == 0:
        raise InvalidNumber("many")
    orders = list(permutations(range(many)))
    places = {cards: place for place, cards in enumerate(orders)}
    left = []
    right = []
    for low in range(many - 1):
        by_place = [places[with_places_exchanged(cards, low)] for cards in orders]
        by_card = [places[with_cards_exchanged(cards, low)] for cards in orders]
        left.append(silent("p" + LETTERS[low], by_place))
        right.append(silent("c" + LETTERS[low], by_card))
    return Store(len(orders), (tuple(left), tuple(right)))


def with_places_exchanged(cards, low):
    """The order of cards in which those in the places `low` and `low` + 1 are exchanged."""
    return cards[:low] + (cards[low + 1], cards[low]) + cards[low + 2:]


def with_cards_exchanged(cards, low):
    """The order of cards in which the cards `low` and `low` + 1 are exchanged."""
    exchanged = {low: low + 1, low + 1: low}
    return tuple([exchanged.get(card, card) for card in cards])
