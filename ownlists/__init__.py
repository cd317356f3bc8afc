"""Ownlists: money that each payer lays by a list of their own."""
