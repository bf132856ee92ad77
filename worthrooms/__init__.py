"""worthrooms: homes for coins. Homes on a net have worths; neighbours exchange their homes."""
