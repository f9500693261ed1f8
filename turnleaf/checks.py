"""Checks of texts: a number that is another one where one sign is changed or two neighbours change places."""

# 9973 is prime, and no difference of two signs, 137 or 136 is a multiple of it: so no such change is lost.
BASE = 137
REST_BY = 9973
FIGURES_OF_CHECK = 4


def check_of(text):
    total = 0
    power = 1
    for sign in text:
        total = (total + ord(sign) * power) % REST_BY
        power = power * BASE % REST_BY
    return total


def check_word(text):
    return str(check_of(text)).zfill(FIGURES_OF_CHECK)
