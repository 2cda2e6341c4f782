"""Fittingpasts: what an archive's papers make sure of, over all pasts that fit them."""
