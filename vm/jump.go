package vm

import (
	"slices"

	"pergola/api"
)

func (m *machine[T]) jump() { m.jumpTo(m.take()) }

func (m *machine[T]) jumpIf() {
	if a, b := m.two(); a != 0 {
		m.jumpTo(b)
	}
}

func (m *machine[T]) jumpTo(place uint64) {
	// A word that is too great for an int is one below 0 then, which is no mark, either.
	if !slices.Contains(m.marks, int(place)) {
		m.fail(api.BadJump)
		return
	}
	m.at = int(place)
}

func (m *machine[T]) mark() {}

func (m *machine[T]) stop() { m.leave(api.Done, 0) }

func (m *machine[T]) returned() { m.leave(api.Done, m.take()) }

func (m *machine[T]) revert() { m.leave(api.Reverted, m.take()) }
