package vm

import "pergola/words"

const wordBytes = 8

// take takes the topmost word, two takes two, the topmost one last; give lays one on. That there are so many words, and room, was asked ahead of the operation.
func (m *machine[T]) take() uint64 {
	top := len(m.stack) - 1
	n := m.stack[top]
	m.stack = m.stack[:top]
	return n
}

func (m *machine[T]) two() (uint64, uint64) {
	b := m.take()
	a := m.take()
	return a, b
}

func (m *machine[T]) give(n uint64) { m.stack = append(m.stack, n) }

func (m *machine[T]) push() {
	key := append(make([]byte, wordBytes-len(m.own)), m.own...)
	// Eight bytes are always some word's.
	n, _ := words.Word(key)
	m.give(n)
}

func (m *machine[T]) pop() { m.take() }

func (m *machine[T]) dup() {
	top := len(m.stack) - 1
	m.give(m.stack[top-int(m.own[0])])
}

func (m *machine[T]) swap() {
	top := len(m.stack) - 1
	other := top - 1 - int(m.own[0])
	m.stack[top], m.stack[other] = m.stack[other], m.stack[top]
}
