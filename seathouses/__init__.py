"""Seats sold by messages between houses."""
