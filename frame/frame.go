package frame

import (
	"escrow/api"
	"escrow/digits"
)

const (
	sumSize    = 4                    // bytes of the checksum, which stands last
	memoAt     = api.Header - sumSize // where the memo begins
	memoSizeAt = memoAt - 1           // where its length stands
)

// Encode gives the frame that says a message.
func Encode(m api.Msg) (string, api.Errno) {
	wrong := fault(m)
	if wrong != api.OK {
		return "", wrong
	}
	return Spell(m), api.OK
}

// Spell gives the frame of a message that is known to be right, so that who answers has no error to do with.
func Spell(m api.Msg) string {
	head := string([]byte{api.First, byte(m.Kind), byte(m.From), byte(m.To)})
	id := digits.Four(uint32(m.ID))
	leg := string([]byte{m.Leg})
	pay := digits.Two(uint16(m.Pay))
	get := digits.Two(uint16(m.Get))
	amount := digits.Four(uint32(m.Amount))
	// A memo that is one has at most 4 bytes a character, so its length goes into one byte.
	size := string([]byte{byte(len(m.Memo))})
	body := head + id + leg + pay + get + amount + size + m.Memo
	sum := Sum(body)
	return body + digits.Four(sum)
}

// Size gives how many bytes the frame has that s begins with. Where s ends ahead of the memo's length, it is the
// least that a frame can have: more than are there.
func Size(s string) int {
	if len(s) <= memoSizeAt {
		return api.Header
	}
	return api.Header + int(s[memoSizeAt])
}

// Decode tells what a frame says.
func Decode(s string) (api.Msg, api.Errno) {
	if len(s) < api.Header || s[0] != api.First {
		return api.Msg{}, api.ErrFrame
	}
	if len(s) != Size(s) {
		return api.Msg{}, api.ErrFrame
	}
	end := len(s) - sumSize
	sum := Sum(s[:end])
	if digits.Number(s[end:]) != uint64(sum) {
		return api.Msg{}, api.ErrSum
	}
	id := digits.Number(s[4:8])
	pay := digits.Number(s[9:11])
	get := digits.Number(s[11:13])
	amount := digits.Number(s[13:memoSizeAt])
	m := api.Msg{
		Kind:   api.Kind(s[1]),
		From:   api.Node(s[2]),
		To:     api.Node(s[3]),
		ID:     api.ID(id),
		Leg:    s[8],
		Pay:    api.Account(pay),
		Get:    api.Account(get),
		Amount: api.Amount(amount),
		Memo:   s[memoAt:end],
	}
	wrong := fault(m)
	if wrong != api.OK {
		return api.Msg{}, wrong
	}
	return m, api.OK
}
