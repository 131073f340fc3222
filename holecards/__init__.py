"""Holes for light: cards with a hole for each item that has the card's term."""
