package vm

import "pergola/api"

func (m *machine[T]) load() {
	value, e := m.s.Slot(m.f.Self, m.take())
	m.told(value, e)
}

func (m *machine[T]) store() {
	slot, value := m.two()
	if e := m.s.SetSlot(m.f.Self, slot, value); e != api.OK {
		m.refuse(e)
	}
}

func (m *machine[T]) balance() {
	account, e := m.s.Get(m.take())
	m.told(account.Balance, e)
}

// told gives what the state has answered, or ends the call.
func (m *machine[T]) told(n uint64, e api.Errno) {
	if e != api.OK {
		m.refuse(e)
		return
	}
	m.give(n)
}

func (m *machine[T]) self() { m.give(m.f.Self) }

func (m *machine[T]) caller() { m.give(m.f.Caller) }

func (m *machine[T]) value() { m.give(m.f.Value) }

func (m *machine[T]) number() { m.give(m.f.Number) }

func (m *machine[T]) gasLeft() { m.give(m.gas) }

func (m *machine[T]) input() {
	n := m.take()
	if n >= uint64(len(m.f.Input)) {
		m.give(0)
		return
	}
	m.give(m.f.Input[n])
}
