"""Grammarpack: grammars with choices in order, read with remembering."""
