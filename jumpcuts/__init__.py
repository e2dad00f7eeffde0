"""Jumpcuts: films cut between like letters."""
