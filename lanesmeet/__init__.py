"""Lanesmeet: what a kernel of many lanes does for all sizes and all orders."""
