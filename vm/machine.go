package vm

import (
	"pergola/api"
	"pergola/opcode"
	"pergola/state"
)

// machine does one call; each call that its code makes has a machine of its own.
type machine[T state.Tree] struct {
	s     *state.State[T]
	f     api.Frame
	code  []byte
	marks []int  // of the code
	at    int    // the place of the next step
	own   []byte // the bytes behind the operation that is done
	stack []uint64
	gas   uint64 // that is left
	last  uint64 // result, of a call

	ended   bool // there is no next step
	outcome api.Outcome
	refused api.Errno // what the state has answered: there is no outcome then
}

// run does step by step till the call has ended.
func (m *machine[T]) run() (api.Outcome, api.Errno) {
	do := operations[T]()
	for !m.ended {
		m.step(do)
	}
	return m.outcome, m.refused
}

func (m *machine[T]) step(do map[byte]func(*machine[T])) {
	if m.at >= len(m.code) {
		m.leave(api.Done, 0)
		return
	}
	op, behind := m.code[m.at], m.code[m.at+1:]
	info, ok := opcode.Of(op)
	if !ok || len(behind) < info.Behind {
		m.fail(api.BadOp)
		return
	}
	m.own = behind[:info.Behind]
	if status := m.hindered(op, info); status != api.Done {
		m.fail(status)
		return
	}
	m.gas -= info.Gas
	m.at += 1 + info.Behind
	do[op](m)
}

// hindered tells the fault by which an operation is not done; Done: it may be.
func (m *machine[T]) hindered(op byte, info opcode.Info) int {
	have := len(m.stack)
	switch {
	case info.Gas > m.gas:
		return api.NoGas
	case have < m.needs(op, info):
		return api.Underflow
	case have-info.Takes+info.Gives > api.MaxStack:
		return api.Overflow
	}
	return api.Done
}

// needs tells how many words there must be: Dup and Swap look at some that they do not take.
func (m *machine[T]) needs(op byte, info opcode.Info) int {
	switch op {
	case api.OpDup:
		return int(m.own[0]) + 1
	case api.OpSwap:
		return int(m.own[0]) + 2
	}
	return info.Takes
}

// leave ends the call as its code wants it.
func (m *machine[T]) leave(status int, result uint64) {
	m.ended, m.outcome = true, api.Outcome{Status: status, Gas: m.gas, Result: result}
}

// fail ends the call by a fault, which leaves neither gas nor a result.
func (m *machine[T]) fail(status int) {
	m.ended, m.outcome = true, api.Outcome{Status: status}
}

// refuse ends the call by what the state has answered.
func (m *machine[T]) refuse(e api.Errno) {
	m.ended, m.refused = true, e
}
