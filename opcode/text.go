package opcode

import (
	"pergola/api"
	"pergola/words"
)

const (
	pushWord = "push"
	byteWord = "byte"
)

// text is what is yet to be read of a code's text, and where it begins there.
type text struct {
	rest string
	at   int
}

// next tells the next word and its place; behind the last one no word, and how many bytes the text has.
func (t *text) next() (string, int) {
	t.skip(run(t.rest, true))
	word, place := t.rest[:run(t.rest, false)], t.at
	t.skip(len(word))
	return word, place
}

func (t *text) skip(n int) {
	t.rest = t.rest[n:]
	t.at += n
}

// run tells how many bytes s begins with that are all blanks, or none of which is one.
func run(s string, blanks bool) int {
	for i, c := range s {
		if (c == ' ' || c == '\n') != blanks {
			return i
		}
	}
	return len(s)
}

// statement reads what belongs to the statement that begins with a word, and tells its bytes; with an error its place.
func (t *text) statement(first string, at int) ([]byte, int, api.Errno) {
	head, size, ok := begun(first)
	if !ok {
		return nil, at, api.ErrOpcodeWord
	}
	if size == 0 {
		return head, 0, api.OK
	}
	number, place := t.next()
	n, ok := words.Parse(number)
	if !ok || sizeOf(n) > size {
		return nil, place, api.ErrOpcodeNumber
	}
	if first == pushWord {
		size = sizeOf(n)
		head = []byte{pushOf(size)}
	}
	key := words.Key(n)
	return append(head, key[len(key)-size:]...), 0, api.OK
}

// begun tells the byte that a statement's first word stands for, and how many bytes its number has at most.
// Of a push the byte hangs on the number, and `byte` has none of its own: these are told without one.
func begun(first string) ([]byte, int, bool) {
	switch first {
	case pushWord:
		return nil, pushes, true
	case byteWord:
		return nil, 1, true
	}
	for size := 1; size <= pushes; size++ {
		if first == sizedPush(size) {
			return []byte{pushOf(size)}, size, true
		}
	}
	for _, r := range table {
		if first == r.word {
			return []byte{r.op}, int(r.behind), true
		}
	}
	return nil, 0, false
}

// sizedPush tells the word of a push that has so many bytes, whether its number needs them or not.
func sizedPush(size int) string { return pushWord + words.Print(uint64(size)) }

// sizeOf tells how many bytes a number needs behind an operation: 0 has no bytes as a word, but one here.
func sizeOf(n uint64) int { return max(1, len(words.Bytes(n))) }
