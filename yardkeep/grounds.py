"""A ground: what rules look at."""


class Ground:
    def __init__(self, lie_of, stiff_ones, path_of, told):
        # No copies: rules are to see what these have become when they are asked.
        self.lie_of = lie_of
        self.stiff_ones = stiff_ones
        self.path_of = path_of
        self.told = told
