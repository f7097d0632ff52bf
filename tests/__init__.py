"""Tests of housewardens; run them with python3 -m unittest from the folder above."""
