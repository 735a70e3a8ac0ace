package nest

import "pergola/api"

// read reads the item that b begins with, which stands in so many lists, and tells how many bytes it has. The end of b is that of the list's body, so nothing reads beyond it.
func read(b []byte, within int) (api.Item, int, api.Errno) {
	from, to, e := bodyAt(b, within)
	if e != api.OK {
		return api.Item{}, 0, e
	}
	if b[0] < listHead {
		if from == 1 && to == 2 && b[1] < textHead {
			return api.Item{}, 0, api.ErrNestForm
		}
		return Text(b[from:to]), to, api.OK
	}
	items, e := readAll(b[from:to], within+1)
	if e != api.OK {
		return api.Item{}, 0, e
	}
	return api.Item{List: true, Items: items}, to, api.OK
}

// readAll reads the items that a list's body is made of.
func readAll(body []byte, within int) ([]api.Item, api.Errno) {
	var items []api.Item
	for len(body) > 0 {
		x, n, e := read(body, within)
		if e != api.OK {
			return nil, e
		}
		items = append(items, x)
		body = body[n:]
	}
	return items, api.OK
}

// bodyAt tells from where to where the body stands of the item that b begins with.
func bodyAt(b []byte, within int) (int, int, api.Errno) {
	if len(b) == 0 {
		return 0, 0, api.ErrNestShort
	}
	first := b[0]
	if first >= listHead && within == api.MaxNest {
		return 0, 0, api.ErrNestDeep
	}
	if first < textHead {
		return 0, 1, api.OK
	}
	n := int(first - textHead)
	if first >= listHead {
		n = int(first - listHead)
	}
	from := 1
	if n > shortMost {
		count := n - shortMost
		length, e := lengthIn(b[1:], count)
		if e != api.OK {
			return 0, 0, e
		}
		n = length
		from += count
	}
	if len(b)-from < n {
		return 0, 0, api.ErrNestShort
	}
	return from, from + n, api.OK
}

// lengthIn reads a length that stands in so many bytes: one that needs them all, and that the head alone could not have told.
func lengthIn(b []byte, count int) (int, api.Errno) {
	if count > lengthMax {
		return 0, api.ErrNestForm
	}
	if len(b) < count {
		return 0, api.ErrNestShort
	}
	n := 0
	for _, x := range b[:count] {
		n = n<<8 | int(x)
	}
	if b[0] == 0 || n <= shortMost {
		return 0, api.ErrNestForm
	}
	return n, api.OK
}
