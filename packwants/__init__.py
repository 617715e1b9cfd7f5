"""Packwants: what told wants cost at least, where things are sold in packs."""
