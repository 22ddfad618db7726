"""Budwright: sums of letters that come by exchanges, in webs of ties that turn with them."""
