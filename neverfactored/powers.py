"""Powers by repeated squaring, for whatever has a product."""


def power_by(times, unit, base, power):
    """Return the power of base for a whole number from 0 on; times(one, other) is the product, unit its 1."""
    found = unit
    square = base
    while power > 0:
        if power % 2 == 1:
            found = times(found, square)
        power = power // 2
        # The square behind the last step would be needed by nothing, and it would be the greatest of all.
        if power > 0:
            square = times(square, square)
    return found
