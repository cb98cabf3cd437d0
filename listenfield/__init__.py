"""Listenfield: a field of places that sense, and one answer from end to end."""
