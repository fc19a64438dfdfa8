"""Rentshare: rooms and a rent, parted so that nobody envies."""
