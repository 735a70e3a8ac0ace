package tx

import (
	"pergola/api"
	"pergola/nest"
	"pergola/words"
)

// The places of a transaction's things in its list. Those ahead of the input are words.
const (
	placeFrom = iota
	placeNonce
	placeGas
	placePrice
	placeTo
	placeValue
	placeInput
	placeMake
	placeCode
	placeCount
)

// itemOf tells the list that a transaction is written as.
func itemOf(t api.Tx) api.Item {
	var l [placeCount]api.Item
	l[placeFrom] = textOf(t.From)
	l[placeNonce] = textOf(t.Nonce)
	l[placeGas] = textOf(t.Gas)
	l[placePrice] = textOf(t.Price)
	l[placeTo] = textOf(t.To)
	l[placeValue] = textOf(t.Value)
	l[placeInput] = listOf(t.Input)
	l[placeMake] = truthText(t.Make)
	l[placeCode] = nest.Text(t.Code)
	return nest.List(l[:]...)
}

// txOf tells the transaction that an item is the list of, be it Right or not. A text has no items: their number alone says that it is none's.
func txOf(x api.Item) (api.Tx, bool) {
	if len(x.Items) != placeCount {
		return api.Tx{}, false
	}
	head, isHead := wordsOf(x.Items[:placeInput])
	input := x.Items[placeInput]
	inner, isInner := wordsOf(input.Items)
	isMake, isTruth := truthOf(x.Items[placeMake])
	code := x.Items[placeCode]
	if !isHead || !input.List || !isInner || !isTruth || code.List {
		return api.Tx{}, false
	}
	return api.Tx{
		From:  head[placeFrom],
		Nonce: head[placeNonce],
		Gas:   head[placeGas],
		Price: head[placePrice],
		To:    head[placeTo],
		Value: head[placeValue],
		Input: inner,
		Make:  isMake,
		Code:  code.Bytes,
	}, true
}

// truthText writes Make as a word: the bytes of 1 and of 0 are the two texts that it may be.
func truthText(is bool) api.Item {
	if is {
		return textOf(1)
	}
	return textOf(0)
}

func truthOf(x api.Item) (is, ok bool) {
	n, ok := wordOf(x)
	if !ok || n > 1 {
		return false, false
	}
	return n == 1, true
}

func textOf(n uint64) api.Item { return nest.Text(words.Bytes(n)) }

func listOf(l []uint64) api.Item {
	texts := make([]api.Item, len(l))
	for i, n := range l {
		texts[i] = textOf(n)
	}
	return nest.List(texts...)
}

func wordOf(x api.Item) (uint64, bool) {
	// A list has no bytes, as the text of 0 has none: it is not to be taken for that.
	if x.List {
		return 0, false
	}
	return words.Read(x.Bytes)
}

// wordsOf tells the words that items are, if each of them is one.
func wordsOf(l []api.Item) ([]uint64, bool) {
	all := make([]uint64, len(l))
	for i, x := range l {
		n, ok := wordOf(x)
		if !ok {
			return nil, false
		}
		all[i] = n
	}
	return all, true
}
