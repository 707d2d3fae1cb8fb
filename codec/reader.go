package codec

// reader reads encodings from a string; at is the offset of the next byte. After a method has failed the offset has no meaning.
type reader struct {
	s  string
	at int
}

// value reads a value with at most the given depth.
func (r *reader) value(depth int) (Value, bool) {
	kind, ok := r.next()
	if !ok {
		return Value{}, false
	}
	switch kind {
	case numberByte:
		c, ok := r.count()
		if !ok {
			return Value{}, false
		}
		return Num(unfoldSign(c)), true
	case textByte:
		return r.text()
	case listByte:
		return r.list(depth)
	}
	return Value{}, false
}

func (r *reader) next() (byte, bool) {
	if r.at >= len(r.s) {
		return 0, false
	}
	b := r.s[r.at]
	r.at++
	return b, true
}

func (r *reader) count() (uint64, bool) {
	var c uint64
	for shift := 0; shift < countBits; shift += groupBits {
		b, ok := r.next()
		if !ok {
			return 0, false
		}
		group := uint64(b & groupMask)
		if group<<shift>>shift != group {
			return 0, false
		}
		c |= group << shift
		if b < more {
			return c, b != 0 || shift == 0
		}
	}
	return 0, false
}

func (r *reader) text() (Value, bool) {
	n, ok := r.count()
	if !ok || n > uint64(len(r.s)-r.at) {
		return Value{}, false
	}
	from := r.at
	r.at += int(n)
	return Str(r.s[from:r.at]), true
}

func (r *reader) list(depth int) (Value, bool) {
	n, ok := r.count()
	// Every item has at least a byte, so that a longer list need not be begun.
	if !ok || depth == 0 || n > uint64(len(r.s)-r.at) {
		return Value{}, false
	}
	v := Value{Kind: List}
	for range n {
		item, ok := r.value(depth - 1)
		if !ok {
			return Value{}, false
		}
		v.Items = append(v.Items, item)
	}
	return v, true
}
