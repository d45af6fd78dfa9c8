"""Onlyhigher: values written again and again on cells that can only rise."""
