"""Restkeepers: rooms over the rests by a prime, and what keeps their worths."""
