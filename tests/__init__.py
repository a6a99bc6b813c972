"""The tests of surecounts."""
