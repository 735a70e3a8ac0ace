package accounts

import (
	"pergola/api"
	"pergola/nest"
	"pergola/words"
)

const fieldCount = 4

// itemOf tells the list that an account is written as.
func itemOf(a api.Account) api.Item {
	return nest.List(
		nest.Text(words.Bytes(a.Nonce)),
		nest.Text(words.Bytes(a.Balance)),
		nest.Text(a.Code[:]),
		nest.Text(a.Storage[:]),
	)
}

// accountOf tells the account that an item is the list of. A text has no items: their number alone says that it is none's.
func accountOf(x api.Item) (api.Account, bool) {
	if len(x.Items) != fieldCount {
		return api.Account{}, false
	}
	nonce, isNonce := wordOf(x.Items[0])
	balance, isBalance := wordOf(x.Items[1])
	code, isCode := digestOf(x.Items[2])
	storage, isStorage := digestOf(x.Items[3])
	if !isNonce || !isBalance || !isCode || !isStorage {
		return api.Account{}, false
	}
	return api.Account{Nonce: nonce, Balance: balance, Code: code, Storage: storage}, true
}

func wordOf(x api.Item) (uint64, bool) {
	// A list has no bytes, as the text of 0 has none: it is not to be taken for that.
	if x.List {
		return 0, false
	}
	return words.Read(x.Bytes)
}

func digestOf(x api.Item) (api.Digest, bool) {
	var d api.Digest
	if len(x.Bytes) != len(d) {
		return api.Digest{}, false
	}
	copy(d[:], x.Bytes)
	return d, true
}
