"""Savelines: saved states of processes that exchange messages."""
