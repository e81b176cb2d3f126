"""Ways of a fraction that are found by taking one share after another."""

from unitshares.errors import TooGreat
from unitshares.fractions import check_has_ways


def greatest_first(fraction):
    """The way that takes the greatest share each time."""
    check_has_ways(fraction)
    top = fraction[0]
    bottom = fraction[1]
    shares = []
    while top > 0:
        share = least_reaching_one(top, bottom)
        check_figures(share)
        shares.append(share)
        top = top * share - bottom
        bottom = bottom * share
    return shares


def rising_factors(fraction):
    """The numbers whose products, from the first on, are the shares of the rising way."""
    check_has_ways(fraction)
    top = fraction[0]
    bottom = fraction[1]
    factors = []
    while top > 0:
        factor = least_reaching_one(top, bottom)
        factors.append(factor)
        top = top * factor - bottom
    return factors


def rising(fraction):
    """The way whose shares are the products of the rising factors."""
    shares = []
    product = 1
    for factor in rising_factors(fraction):
        product = product * factor
        shares.append(product)
    return shares


def split(share):
    """The two shares that come to the share together."""
    return [share + 1, share * (share + 1)]


def least_reaching_one(top, bottom):
    """The least number of times that brings the fraction to one or more."""
    # The share with this number is also the greatest one within the fraction.
    return (bottom + top - 1) // top


def check_figures(share):
    """Refuse a share whose number has more than 400 figures."""
    # The power is made in two steps, as a written exponent is kept small.
    if share >= (10 ** 40) ** 10:
        raise TooGreat("a share would have a number of more than 400 figures")
