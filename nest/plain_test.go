package nest_test

import (
	"bytes"

	"pergola/api"
)

// The chapter's tables and lists, worked out as plainly as may be: what the package is held against.

// plainEncode is the table of encodings; it asks nothing.
func plainEncode(x api.Item) []byte {
	if !x.List {
		if len(x.Bytes) == 1 && x.Bytes[0] < 128 {
			return []byte{x.Bytes[0]}
		}
		return append(plainHead(128, 183, len(x.Bytes)), x.Bytes...)
	}
	var body []byte
	for _, y := range x.Items {
		body = append(body, plainEncode(y)...)
	}
	return append(plainHead(192, 247, len(body)), body...)
}

func plainHead(short, long, n int) []byte {
	switch {
	case n < 56:
		return []byte{byte(short + n)}
	case n < 256:
		return []byte{byte(long + 1), byte(n)}
	case n < 65536:
		return []byte{byte(long + 2), byte(n / 256), byte(n % 256)}
	}
	return []byte{byte(long + 3), byte(n / 65536), byte(n / 256 % 256), byte(n % 256)}
}

// plainFirst is the list of First's steps, with the place and the end that it speaks of; end is at most len(b).
func plainFirst(b []byte, place, end, lists int) (api.Item, int, api.Errno) {
	if place == end { // 1
		return api.Item{}, 0, api.ErrNestShort
	}
	f := int(b[place])
	if f >= 192 && lists == 8 { // 2
		return api.Item{}, 0, api.ErrNestDeep
	}
	if f >= 187 && f <= 191 || f >= 251 { // 3
		return api.Item{}, 0, api.ErrNestForm
	}
	start, n := place+1, 0
	switch {
	case f < 128:
		start, n = place, 1
	case f <= 183:
		n = f - 128
	case f >= 192 && f <= 247:
		n = f - 192
	default: // 4
		k := f - 183
		if f > 247 {
			k = f - 247
		}
		if end-start < k {
			return api.Item{}, 0, api.ErrNestShort
		}
		for i := 0; i < k; i++ {
			n = n*256 + int(b[start+i])
		}
		if b[start] == 0 || n < 56 {
			return api.Item{}, 0, api.ErrNestForm
		}
		start += k
	}
	if end-start < n { // 5
		return api.Item{}, 0, api.ErrNestShort
	}
	if f == 129 && b[start] < 128 { // 6
		return api.Item{}, 0, api.ErrNestForm
	}
	if f < 192 {
		return text(string(b[start : start+n])), start + n, api.OK
	}
	x := list()
	for at := start; at < start+n; { // 7
		y, next, e := plainFirst(b, at, start+n, lists+1)
		if e != api.OK {
			return api.Item{}, 0, e
		}
		x.Items = append(x.Items, y)
		at = next
	}
	return x, start + n, api.OK
}

func text(s string) api.Item { return api.Item{Bytes: []byte(s)} }

func list(l ...api.Item) api.Item { return api.Item{List: true, Items: l} }

// zeros is a text of n bytes 0.
func zeros(n int) api.Item { return api.Item{Bytes: make([]byte, n)} }

// deep are n lists in one another.
func deep(n int) api.Item { return around(n-1, list()) }

// around has x in n lists.
func around(n int, x api.Item) api.Item {
	for range n {
		x = list(x)
	}
	return x
}

// times is a list that has x so many times.
func times(n int, x api.Item) api.Item {
	l := make([]api.Item, n)
	for i := range l {
		l[i] = x
	}
	return list(l...)
}

func same(x, y api.Item) bool {
	if x.List != y.List || !bytes.Equal(x.Bytes, y.Bytes) || len(x.Items) != len(y.Items) {
		return false
	}
	for i := range x.Items {
		if !same(x.Items[i], y.Items[i]) {
			return false
		}
	}
	return true
}

// nothing tells whether x is the zero value, as beside an error.
func nothing(x api.Item) bool { return same(x, api.Item{}) }

// samples are items of every form: texts and lists at each edge of the table, in lists up to MaxNest.
func samples() []api.Item {
	var l []api.Item
	for _, n := range []int{0, 1, 2, 3, 54, 55, 56, 57, 255, 256, 257, 65535, 65536, 65537} {
		l = append(l, zeros(n), text(string(bytes.Repeat([]byte{0xff}, n))), text(string(bytes.Repeat([]byte("dog"), n))[:n]))
		l = append(l, times(n, text("")), times(n, text("\x7f")), times(n, list()))
		l = append(l, times(n/2, text("\x80")), times(n/3, list(list())), times(n/3, text("\xc0\xf8")))
		// Bodies of one text: of n - 1 bytes and its head.
		l = append(l, list(zeros(max(n-1, 0))), list(zeros(max(n-2, 0))), list(zeros(max(n-3, 0))))
	}
	for b := range 256 {
		l = append(l, text(string([]byte{byte(b)})), list(text(string([]byte{byte(b)}))), text(string([]byte{byte(b), 0})))
	}
	for n := range api.MaxNest {
		l = append(l, deep(n+1), around(n, text("cat")), around(n, zeros(60)))
		l = append(l, list(text("\x01"), around(n, text("\xff")), text("")), around(n, list(text("cat"), text("dog"))))
	}
	l = append(l, list(list(), list(list(), list())), list(list(list()), text("x"), list(text("y"), list(text("z")))))
	return l
}
