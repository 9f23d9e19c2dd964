"""Tokenfold: nets of tokens."""
