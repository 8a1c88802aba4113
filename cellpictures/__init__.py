"""Cells that choose their pictures by the kinds around them."""
