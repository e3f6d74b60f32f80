"""What is known of one table: food, appetites, and who reaches what."""


class State:
    def __init__(self):
        self.food = [0]
        self.appetites = [0]
        self.reaches = [[]]
