"""Firmroll: a roll of rights and a text, kept by hands that seldom meet."""
