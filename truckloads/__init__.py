"""Truck loading with incompatible goods: bin packing with conflicts."""
