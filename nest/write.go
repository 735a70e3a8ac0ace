package nest

import "pergola/api"

// The first byte of an encoding is textHead or listHead, and then the body's length, if that is at most shortMost; else shortMost, and how many bytes of the length follow.
const (
	textHead  = 128
	listHead  = 192
	shortMost = 55
	lengthMax = 3 // bytes of the length of MaxBytes
)

// survey goes through an item in the document's order. The weights bound it: where lists stand in one another many times, going on to the end would take for ever.
type survey struct {
	weight int
}

// measure tells how many bytes the encoding of x has, or why it has none.
func measure(x api.Item) (int, api.Errno) {
	s := survey{}
	n, e := s.body(x, 0)
	if e != api.OK {
		return 0, e
	}
	if n > api.MaxBytes {
		return 0, api.ErrNestLong
	}
	return sizeOf(x, n), api.OK
}

// body tells how many bytes the body of x has; x stands in so many lists.
func (s *survey) body(x api.Item, within int) (int, api.Errno) {
	if x.List && within == api.MaxNest {
		return 0, api.ErrNestDeep
	}
	if x.List && len(x.Bytes) > 0 || !x.List && len(x.Items) > 0 {
		return 0, api.ErrNestForm
	}
	s.weight += weightOf(x, within)
	if s.weight > api.MaxBytes {
		return 0, api.ErrNestLong
	}
	n := len(x.Bytes)
	for _, y := range x.Items {
		inner, e := s.body(y, within+1)
		if e != api.OK {
			return 0, e
		}
		n += sizeOf(y, inner)
	}
	return n, api.OK
}

// weightOf is at least 1 for each item but the outermost list, so that the survey ends, and never more than the item takes in an encoding, so that none is refused for it that could be written.
func weightOf(x api.Item, within int) int {
	if x.List && within == 0 {
		return 0
	}
	return max(len(x.Bytes), 1)
}

// sizeOf tells how many bytes the encoding of x has, whose body has n.
func sizeOf(x api.Item, n int) int {
	if bare(x) {
		return n
	}
	size := 1 + n
	if n > shortMost {
		for rest := n; rest > 0; rest >>= 8 {
			size++
		}
	}
	return size
}

// bare tells whether the encoding of x is its body alone.
func bare(x api.Item) bool {
	return !x.List && len(x.Bytes) == 1 && x.Bytes[0] < textHead
}

// put writes x so that its encoding ends at a place, and tells where it begins: from the back, since a list's length is known once its body stands there.
func put(out []byte, end int, x api.Item) int {
	if !x.List {
		at := end - len(x.Bytes)
		copy(out[at:end], x.Bytes)
		if bare(x) {
			return at
		}
		return putHead(out, at, textHead, len(x.Bytes))
	}
	at := end
	for i := len(x.Items) - 1; i >= 0; i-- {
		at = put(out, at, x.Items[i])
	}
	return putHead(out, at, listHead, end-at)
}

// putHead writes what stands ahead of a body of n bytes that begins at a place, and tells where that begins.
func putHead(out []byte, at int, first byte, n int) int {
	if n <= shortMost {
		out[at-1] = first + byte(n)
		return at - 1
	}
	count := 0
	for rest := n; rest > 0; rest >>= 8 {
		at--
		out[at] = byte(rest)
		count++
	}
	out[at-1] = first + shortMost + byte(count)
	return at - 1
}
