package vm

import "pergola/api"

// call calls another code, or its own once more.
func (m *machine[T]) call() {
	input, gas := m.two()
	to, value := m.two()
	gas = min(gas, m.gas)
	m.gas -= gas
	if m.f.Depth+1 > api.MaxDepth {
		m.fail(api.TooDeep)
		return
	}
	mark := m.s.Mark()
	o, e := m.send(api.Frame{Self: to, Caller: m.f.Self, Value: value, Input: []uint64{input}, Gas: gas, Number: m.f.Number, Depth: m.f.Depth + 1})
	switch {
	case e != api.OK:
		m.refuse(e)
	case o.Status == api.Done:
		m.comeBack(o, true)
	case o.Status == api.Reverted:
		m.s.Back(mark)
		m.comeBack(o, false)
	default:
		m.fail(o.Status)
	}
}

// send pays a call's value and does it. One that can't be paid ends as one that is reverted at once, without a result.
func (m *machine[T]) send(f api.Frame) (api.Outcome, api.Errno) {
	paid, e := Pay(m.s, f.Caller, f.Self, f.Value)
	if e != api.OK {
		return api.Outcome{}, e
	}
	if !paid {
		return api.Outcome{Status: api.Reverted, Gas: f.Gas}, api.OK
	}
	return Run(m.s, f)
}

// comeBack takes the gas that a call has left, and notes its result.
func (m *machine[T]) comeBack(o api.Outcome, done bool) {
	m.gas += o.Gas
	m.last = o.Result
	m.give(truth(done))
}

func (m *machine[T]) lastResult() { m.give(m.last) }
