"""Marblerun: boards whose lists turn under marbles."""
