"""The tests of savelines."""
