package glob

// set is some of all bytes, with a bit for each.
type set [4]uint64

// span gives all bytes from the first to the last one.
func span(first, last byte) set {
	var s set
	for c := int(first); c <= int(last); c++ {
		s[c/64] |= 1 << (c % 64)
	}
	return s
}

// with gives the bytes that are in either set.
func (s set) with(other set) set {
	for i := range s {
		s[i] |= other[i]
	}
	return s
}

// others gives the bytes that aren't in the set.
func (s set) others() set {
	for i := range s {
		s[i] = ^s[i]
	}
	return s
}

// has tells whether a byte is in the set.
func (s set) has(c byte) bool { return s[c/64]>>(c%64)&1 != 0 }
