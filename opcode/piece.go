package opcode

import "pergola/words"

// pieceSize tells how many bytes the piece has that a code of one byte at least begins with.
func pieceSize(code []byte) int {
	info, ok := Of(code[0])
	if !ok || len(code) <= info.Behind {
		return 1
	}
	return 1 + info.Behind
}

// written tells a piece's statement.
func written(piece []byte) string {
	info, ok := Of(piece[0])
	if !ok || len(piece) <= info.Behind {
		return withNumber(byteWord, uint64(piece[0]))
	}
	if info.Behind == 0 {
		return info.Word
	}
	n := valueOf(piece[1:])
	// A push alone may have more bytes than its number needs: dup and swap have one, which is the least.
	if info.Behind != sizeOf(n) {
		return withNumber(sizedPush(info.Behind), n)
	}
	return withNumber(info.Word, n)
}

func withNumber(word string, n uint64) string { return word + " " + words.Print(n) }

// valueOf tells the number that an operation's own bytes are, noughts ahead of it or none.
func valueOf(own []byte) uint64 {
	for len(own) > 0 && own[0] == 0 {
		own = own[1:]
	}
	// Without a 0 ahead at most eight bytes are some word's.
	n, _ := words.Read(own)
	return n
}
