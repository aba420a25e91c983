package frame

import "escrow/api"

const (
	sumSize    = 4                    // bytes of the checksum, which stands last
	memoAt     = api.Header - sumSize // where the memo begins
	memoSizeAt = memoAt - 1           // where its length stands
)

// Encode gives the frame that says a message.
func Encode(m api.Msg) (string, api.Errno) {
	wrong := fault(m)
	if wrong != api.OK {
		return "", wrong
	}
	return Spell(m), api.OK
}

// Spell gives the frame of a message that is known to be right, so that who answers has no error to do with.
func Spell(m api.Msg) string {
	head := string([]byte{api.First, byte(m.Kind), byte(m.From), byte(m.To)})
	id := fourBytes(uint32(m.ID))
	leg := string([]byte{m.Leg})
	pay := twoBytes(uint16(m.Pay))
	get := twoBytes(uint16(m.Get))
	amount := fourBytes(uint32(m.Amount))
	// A memo that is one has at most 4 bytes a character, so its length goes into one byte.
	size := string([]byte{byte(len(m.Memo))})
	body := head + id + leg + pay + get + amount + size + m.Memo
	sum := Sum(body)
	return body + fourBytes(sum)
}

// Decode tells what a frame says.
func Decode(s string) (api.Msg, api.Errno) {
	if len(s) < api.Header || s[0] != api.First {
		return api.Msg{}, api.ErrFrame
	}
	if len(s) != api.Header+int(s[memoSizeAt]) {
		return api.Msg{}, api.ErrFrame
	}
	end := len(s) - sumSize
	sum := Sum(s[:end])
	if number(s[end:]) != sum {
		return api.Msg{}, api.ErrSum
	}
	id := number(s[4:8])
	pay := number(s[9:11])
	get := number(s[11:13])
	amount := number(s[13:memoSizeAt])
	m := api.Msg{
		Kind:   api.Kind(s[1]),
		From:   api.Node(s[2]),
		To:     api.Node(s[3]),
		ID:     api.ID(id),
		Leg:    s[8],
		Pay:    api.Account(pay),
		Get:    api.Account(get),
		Amount: api.Amount(amount),
		Memo:   s[memoAt:end],
	}
	wrong := fault(m)
	if wrong != api.OK {
		return api.Msg{}, wrong
	}
	return m, api.OK
}

func twoBytes(n uint16) string {
	return string([]byte{byte(n >> 8), byte(n)})
}

func fourBytes(n uint32) string {
	return string([]byte{byte(n >> 24), byte(n >> 16), byte(n >> 8), byte(n)})
}

// number gives the number that bytes say, the high byte first.
func number(s string) uint32 {
	n := uint32(0)
	for i := 0; i < len(s); i++ {
		n = n<<8 | uint32(s[i])
	}
	return n
}
