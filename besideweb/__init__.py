"""Besideweb: webs made by laying webs beside one another and by tying all across."""
