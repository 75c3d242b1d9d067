"""Boughworth: worths carried up, down and along trees."""
