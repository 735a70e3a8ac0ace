package vm

func (m *machine[T]) add() {
	a, b := m.two()
	m.give(a + b)
}

func (m *machine[T]) sub() {
	a, b := m.two()
	m.give(a - b)
}

func (m *machine[T]) mul() {
	a, b := m.two()
	m.give(a * b)
}

func (m *machine[T]) div() {
	a, b := m.two()
	if b == 0 {
		m.give(0)
		return
	}
	m.give(a / b)
}

func (m *machine[T]) mod() {
	a, b := m.two()
	if b == 0 {
		m.give(0)
		return
	}
	m.give(a % b)
}

func (m *machine[T]) less() {
	a, b := m.two()
	m.give(truth(a < b))
}

func (m *machine[T]) equal() {
	a, b := m.two()
	m.give(truth(a == b))
}

func (m *machine[T]) not() { m.give(truth(m.take() == 0)) }

func truth(is bool) uint64 {
	if is {
		return 1
	}
	return 0
}
