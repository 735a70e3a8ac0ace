package apply

import (
	"pergola/api"
	"pergola/state"
	"pergola/tx"
	"pergola/words"
)

// charged tells the sender's account as it is once it has paid for all of the gas, if the transaction is taken.
func charged[T state.Tree](s *state.State[T], t api.Tx) (api.Account, api.Errno) {
	if e := misfit(t); e != api.OK {
		return api.Account{}, e
	}
	a, e := s.Get(t.From)
	if e != api.OK {
		return api.Account{}, e
	}
	next, ok := words.Add(a.Nonce, 1)
	if !ok || a.Nonce != t.Nonce {
		return api.Account{}, api.ErrTxNonce
	}
	fee, ok := tx.Fee(t)
	if !ok {
		return api.Account{}, api.ErrTxFunds
	}
	left, ok := words.Sub(a.Balance, fee)
	if !ok {
		return api.Account{}, api.ErrTxFunds
	}
	a.Nonce, a.Balance = next, left
	return a, api.OK
}

// misfit tells the error of a transaction that no state takes.
func misfit(t api.Tx) api.Errno {
	switch {
	case !tx.Right(t):
		return api.ErrTxForm
	case t.Gas > api.MaxGas:
		return api.ErrTxMost
	case t.Gas < tx.Least(t):
		return api.ErrTxGas
	}
	return api.OK
}

// settle shares out the fee, by the gas that was used. The shares are no more than the fee, which does not leave 64 bits.
func settle[T state.Tree](s *state.State[T], t api.Tx, used, beneficiary uint64) api.Errno {
	if e := give(s, t.From, (t.Gas-used)*t.Price); e != api.OK {
		return e
	}
	return give(s, beneficiary, used*t.Price)
}

// give makes a balance so much more; it is lost where there is no room for it.
func give[T state.Tree](s *state.State[T], address, value uint64) api.Errno {
	if value == 0 {
		return api.OK
	}
	a, e := s.Get(address)
	if e != api.OK {
		return e
	}
	more, ok := words.Add(a.Balance, value)
	if !ok {
		return api.OK
	}
	return s.Set(address, a.Nonce, more)
}
