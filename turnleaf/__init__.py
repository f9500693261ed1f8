"""Turnleaf: lists shown leaf by leaf while others change them."""
