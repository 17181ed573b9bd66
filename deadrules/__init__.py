"""Deadrules: style sheets for all documents of a grammar."""
