"""Shopwhole: a machine shop whole, from the text of a part to chips."""
