package receipt

import (
	"pergola/api"
	"pergola/nest"
	"pergola/words"
)

const fieldCount = 4

// listOf tells the list that any number of words are written as.
func listOf(all ...uint64) api.Item {
	texts := make([]api.Item, len(all))
	for i, n := range all {
		texts[i] = nest.Text(words.Bytes(n))
	}
	return nest.List(texts...)
}

// receiptOf tells the receipt that an item is the list of, be it Right or not. A text has no items: their number alone says that it is none's.
func receiptOf(x api.Item) (api.Receipt, bool) {
	if len(x.Items) != fieldCount {
		return api.Receipt{}, false
	}
	status, isStatus := wordOf(x.Items[0])
	gas, isGas := wordOf(x.Items[1])
	result, isResult := wordOf(x.Items[2])
	made, isMade := wordOf(x.Items[3])
	if !isStatus || !isGas || !isResult || !isMade {
		return api.Receipt{}, false
	}
	// A word that is greater than any int becomes one below 0, which no Right receipt has.
	return api.Receipt{Status: int(status), Gas: gas, Result: result, Made: made}, true
}

func wordOf(x api.Item) (uint64, bool) {
	// A list has no bytes, as the text of 0 has none: it is not to be taken for that.
	if x.List {
		return 0, false
	}
	return words.Read(x.Bytes)
}
