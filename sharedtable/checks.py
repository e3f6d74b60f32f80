"""What must hold of the numbers and lists that a call brings."""

MOST_OF_EACH = 8
MOST_AMOUNT = 100


def is_there(number, count):
    return 0 <= number < count


def goes_up(numbers):
    for at in range(1, len(numbers)):
        if numbers[at - 1] >= numbers[at]:
            return False
    return True


def is_choice(numbers, count):
    return goes_up(numbers) and all([is_there(number, count) for number in numbers])


def is_amount(amount):
    return 0 <= amount <= MOST_AMOUNT


def is_amount_row(amounts):
    return 1 <= len(amounts) <= MOST_OF_EACH and all([is_amount(amount) for amount in amounts])


def is_share_row(shares, count):
    return len(shares) == count and all([share >= 0 for share in shares])


def is_order(numbers, count):
    return sorted(numbers) == list(range(count))
