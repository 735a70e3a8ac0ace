package apply

import (
	"pergola/api"
	"pergola/state"
	"pergola/tx"
	"pergola/vm"
)

const (
	firstDepth = 1 // of the call that a transaction does itself
	madeNonce  = 1 // of an account that was made, so that it is not empty
)

// attempt does what a transaction wants, and takes it back unless it is done.
func attempt[T state.Tree](s *state.State[T], t api.Tx, number uint64) (api.Outcome, api.Errno) {
	mark := s.Mark()
	o, e := act(s, t, number)
	if o.Status != api.Done {
		s.Back(mark)
	}
	return o, e
}

func act[T state.Tree](s *state.State[T], t api.Tx, number uint64) (api.Outcome, api.Errno) {
	gas := t.Gas - tx.Least(t)
	if t.Make {
		return lay(s, t, gas)
	}
	return call(s, t, gas, number)
}

func call[T state.Tree](s *state.State[T], t api.Tx, gas, number uint64) (api.Outcome, api.Errno) {
	paid, e := vm.Pay(s, t.From, t.To, t.Value)
	if e != api.OK {
		return api.Outcome{}, e
	}
	if !paid {
		return api.Outcome{Status: api.NoFunds, Gas: gas}, api.OK
	}
	return vm.Run(s, api.Frame{Self: t.To, Caller: t.From, Value: t.Value, Input: t.Input, Gas: gas, Number: number, Depth: firstDepth})
}

// lay lays a transaction's code at a new address.
func lay[T state.Tree](s *state.State[T], t api.Tx, gas uint64) (api.Outcome, api.Errno) {
	address := tx.Made(t.From, t.Nonce)
	a, e := s.Get(address)
	if e != api.OK {
		return api.Outcome{}, e
	}
	if a != empty() {
		return api.Outcome{Status: api.Taken, Gas: gas}, api.OK
	}
	paid, e := vm.Pay(s, t.From, address, t.Value)
	if e != api.OK {
		return api.Outcome{}, e
	}
	if !paid {
		return api.Outcome{Status: api.NoFunds, Gas: gas}, api.OK
	}
	return api.Outcome{Gas: gas}, own(s, address, t.Code)
}

// own gives an address a code, and the nonce of one that has such.
func own[T state.Tree](s *state.State[T], address uint64, code []byte) api.Errno {
	if e := s.SetCode(address, code); e != api.OK {
		return e
	}
	// The value has been paid since the account was asked for.
	a, e := s.Get(address)
	if e != api.OK {
		return e
	}
	return s.Set(address, madeNonce, a.Balance)
}

// empty is the account of which nothing is kept, as a state that has nothing tells it.
func empty() api.Account {
	a, _ := state.Open(state.NewFull()).Get(0)
	return a
}
