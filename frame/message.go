package frame

import "escrow/api"

// fault gives the error of a message that no frame may say. Its order is the document's: the first error that
// applies is the answer.
func fault(m api.Msg) api.Errno {
	if m.Kind < api.Prepare || m.Kind > api.Done {
		return api.ErrKind
	}
	if !goesItsWay(m) {
		return api.ErrNode
	}
	if m.Leg >= api.MaxLegs {
		return api.ErrLeg
	}
	if m.Kind == api.Prepare {
		return termsFault(m)
	}
	if m.Pay != 0 || m.Get != 0 || m.Amount != 0 || m.Memo != "" {
		return api.ErrKind
	}
	return api.OK
}

// goesItsWay tells whether a message is between the notary and a bank, in the direction of its kind.
func goesItsWay(m api.Msg) bool {
	if m.Kind <= api.Reject {
		return m.From == api.Notary && IsBank(m.To)
	}
	return m.To == api.Notary && IsBank(m.From)
}

// IsBank tells whether a node is a bank.
func IsBank(n api.Node) bool {
	return n != api.Notary && n <= api.MaxBanks
}

// termsFault gives the error of what Prepare alone carries.
func termsFault(m api.Msg) api.Errno {
	if m.Amount == 0 {
		return api.ErrAmount
	}
	if !IsMemo(m.Memo) {
		return api.ErrMemo
	}
	return api.OK
}
