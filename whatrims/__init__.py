"""Discs of tiles, what their rims tell, and which rims there are."""
