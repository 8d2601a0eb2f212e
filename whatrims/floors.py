"""Floors: the tiles of the rings round one tile, told by their paths, and how they lie on one another."""

from whatrims.ringcounts import SIDES_INSIDE, all_makes


class Floor:
    """The floor of a kind (p, q), on which tiles are told by paths: so rings go on as far as one likes."""

    def __init__(self, p, q):
        self.p = p
        self.q = q
        self.made = all_makes(p, q)
        # Entry g tells how many tiles, g rings on, come of a tile of each kind.
        self.tables = [{kind: 1 for kind in self.made}]

    def table(self, g):
        """Return the dict from each kind to how many tiles, g rings on, come of a tile of it."""
        while len(self.tables) <= g:
            latest = self.tables[-1]
            self.tables.append({kind: self._sum(self.made[kind], latest) for kind in self.made})
        return self.tables[g]

    def _sum(self, kinds, table):
        return sum([kinds.count(kind) * table[kind] for kind in table])

    def size(self, k):
        """Return the number of tiles of ring k."""
        return self.table(k)["O"]

    def path_of(self, place):
        """Return the path of a place."""
        k, left = place
        kind = "O"
        found = []
        for g in range(k - 1, -1, -1):
            table = self.table(g)
            n = 0
            while left >= table[self.made[kind][n]]:
                left -= table[self.made[kind][n]]
                n += 1
            found.append(n)
            kind = self.made[kind][n]
        return tuple(found)

    def place_of(self, path):
        """Return the place with a path."""
        return (len(path), self.ahead_in_ring(path, len(path)))

    def ahead_in_ring(self, path, k):
        """Return how many tiles of ring k come of tiles ahead of that of the path, in its own ring."""
        total = 0
        kinds = self.kinds(path)
        for level, n in enumerate(path):
            total += self._sum(self.made[kinds[level]][:n], self.table(k - level - 1))
        return total

    def kinds(self, path):
        """Return the list of the kinds of the tiles from ring 0 to that of the path, each made by the one ahead."""
        found = ["O"]
        for n in path:
            found.append(self.made[found[-1]][n])
        return found

    def kind(self, path):
        """Return the kind of the tile of a path."""
        return self.kinds(path)[-1]

    def beside(self, path, step):
        """Return the path of the next tile of the ring, if step is 1, of the tile ahead, if it is -1."""
        kinds = self.kinds(path)
        level = len(path)
        while level > 0:
            level -= 1
            n = self._leading(kinds[level], path[level] + step, step, level + 1 == len(path))
            if n is not None:
                return self._led_out([*path[:level], n], len(path), step)
        return self._led_out([], len(path), step)

    def _leading(self, kind, n, step, is_last):
        """Return the first number from n on, by steps, of what a tile of this kind makes, if that leads on.

        Of some kinds no tiles come: they stand at the end of paths alone.
        """
        kinds = self.made[kind]
        while 0 <= n < len(kinds):
            if is_last or self.made[kinds[n]] != "":
                return n
            n += step
        return None

    def _led_out(self, numbers, k, step):
        """Return the path to ring k that begins with these numbers, and is the first one there, or the last one."""
        kind = self.kind(numbers)
        while len(numbers) < k:
            begin = 0 if step == 1 else len(self.made[kind]) - 1
            n = self._leading(kind, begin, step, len(numbers) + 1 == k)
            numbers.append(n)
            kind = self.made[kind][n]
        return tuple(numbers)

    def over(self, path, i):
        """Return the path of the tile over side i, and the number that the side has there."""
        if path == ():
            return (i * (self.q - 2),), 0
        inside = SIDES_INSIDE[self.kind(path)]
        if i < inside:
            return self._over_inside(path, i)
        if i == inside:
            return self.beside(path, -1), self.p - 1
        if i == self.p - 1:
            found = self.beside(path, 1)
            return found, SIDES_INSIDE[self.kind(found)]
        if self.q == 3 and i == self.p - 2:
            # The first tile that the next one makes lies over this side, too.
            return (*self.beside(path, 1), 0), 1
        # What lies over sides has the numbers 0, q - 2, .. among what is made, with what touches corners between.
        return (*path, (i - inside - 1) * (self.q - 2)), 0

    def _over_inside(self, path, i):
        maker = path[:-1]
        n = path[-1] // (self.q - 2)
        if maker == ():
            return maker, n
        if i == 1:
            return self.beside(maker, -1), self.p - 2
        return maker, SIDES_INSIDE[self.kind(maker)] + 1 + n
