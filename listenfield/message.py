"""Messages: what a place speaks in its slot."""

from listenfield.plain import number_of, numbers_in
from listenfield.posts import plain_parcel
from listenfield.questions import plain_list


class Message:
    """What a place spoke in a turn, as it was then, whenever it is heard."""

    def __init__(self, turn, speaker, clock, told_level, told_list, told_taken, parcels):
        """Keep what was spoken; the clock is a copied one, which goes on no more."""
        self.turn = number_of(turn)
        self.speaker = number_of(speaker)
        self.clock = clock
        self.told_level = number_of(told_level)
        self.told_list = plain_list(told_list)
        self.told_taken = tuple([numbers_in(row) for row in told_taken])
        self.parcels = tuple([(number_of(number), plain_parcel(parcel)) for number, parcel in parcels])

    def taken_from(self, place):
        """Tell by questions the numbers of the last parcels that the speaker took from a place."""
        return {number: taken for number, near, taken in self.told_taken if near == place}

    def parcels_to(self, place):
        """Tell by questions the parcels that go to a place."""
        return {number: parcel for number, parcel in self.parcels if parcel[1] == place}
