"""Comesapart: webs whose places have sides."""
