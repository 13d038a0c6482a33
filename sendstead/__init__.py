"""Sendstead: a language of things and messages that goes on while it is changed."""
