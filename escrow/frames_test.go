package escrow_test

import (
	"fmt"
	"hash/crc32"
	"math/rand"
	"strings"
	"testing"
	"unicode/utf8"

	"escrow/api"
	"escrow/escrow"
)

// prepare is the document's message (example 2).
func prepare() api.Msg {
	return api.Msg{Kind: api.Prepare, To: 3, ID: 258, Leg: 1, Pay: 5, Get: 6, Amount: 1000, Memo: "é"}
}

// withMemo is the document's message with another memo.
func withMemo(memo string) api.Msg {
	m := prepare()
	m.Memo = memo
	return m
}

// sealed lays the checksum behind some bytes. It is the library's, so that a wrong Sum does not hide behind itself.
func sealed(body string) string {
	c := crc32.ChecksumIEEE([]byte(body))
	return body + string([]byte{byte(c >> 24), byte(c >> 16), byte(c >> 8), byte(c)})
}

// spelled is a frame that says a message, right or wrong, byte by byte as the document lays it.
func spelled(m api.Msg) string {
	return sealed(string([]byte{
		69, byte(m.Kind), byte(m.From), byte(m.To),
		byte(m.ID >> 24), byte(m.ID >> 16), byte(m.ID >> 8), byte(m.ID),
		m.Leg,
		byte(m.Pay >> 8), byte(m.Pay), byte(m.Get >> 8), byte(m.Get),
		byte(m.Amount >> 24), byte(m.Amount >> 16), byte(m.Amount >> 8), byte(m.Amount),
		byte(len(m.Memo)),
	}) + m.Memo)
}

// wanted is the document's P4, told by the library.
func wanted(m api.Msg) api.Errno {
	down := m.Kind == 1 || m.Kind == 2 || m.Kind == 3
	up := m.Kind == 4 || m.Kind == 5 || m.Kind == 6
	bare := m.Pay == 0 && m.Get == 0 && m.Amount == 0 && m.Memo == ""
	switch {
	case !down && !up:
		return api.ErrKind
	case down && (m.From != 0 || m.To < 1 || m.To > 7):
		return api.ErrNode
	case up && (m.To != 0 || m.From < 1 || m.From > 7):
		return api.ErrNode
	case m.Leg > 3:
		return api.ErrLeg
	case m.Kind == 1 && m.Amount == 0:
		return api.ErrAmount
	case m.Kind == 1 && (!utf8.ValidString(m.Memo) || utf8.RuneCountInString(m.Memo) > 16):
		return api.ErrMemo
	case m.Kind != 1 && !bare:
		return api.ErrKind
	}
	return api.OK
}

func shown(m api.Msg) string {
	return fmt.Sprintf("%+v", m)
}

func checkEncode(t *testing.T, m api.Msg, want api.Errno) {
	t.Helper()
	frame := ""
	if want == api.OK {
		frame = spelled(m)
	}
	if s, e := escrow.Encode(m); s != frame || e != want {
		t.Fatalf("Encode(%.300q) = %x, %d, want %x, %d", shown(m), s, e, frame, want)
	}
}

func checkDecode(t *testing.T, s string, m api.Msg, want api.Errno) {
	t.Helper()
	if n, e := escrow.Decode(s); n != m || e != want {
		t.Fatalf("Decode(%.300x) = %.300q, %d, want %.300q, %d", s, shown(n), e, shown(m), want)
	}
}

// checkMemo asks for a memo both ways.
func checkMemo(t *testing.T, memo string, want api.Errno) {
	t.Helper()
	m := withMemo(memo)
	checkEncode(t, m, want)
	if len(memo) > 255 {
		return
	}
	if want == api.OK {
		checkDecode(t, spelled(m), m, api.OK)
	} else {
		checkDecode(t, spelled(m), api.Msg{}, want)
	}
}

// Every field at its edges with every other one: so each pair of errors meets, and the one named first must answer.
func TestP1FirstErrorNamed(t *testing.T) {
	for _, kind := range []api.Kind{0, 1, 2, 3, 4, 5, 6, 7, 255} {
		for _, from := range []api.Node{0, 1, 7, 8, 255} {
			for _, to := range []api.Node{0, 1, 7, 8, 255} {
				for _, leg := range []uint8{0, 3, 4, 255} {
					m := api.Msg{Kind: kind, From: from, To: to, ID: 1<<32 - 2, Leg: leg}
					checkTerms(t, m)
				}
			}
		}
	}
}

func checkTerms(t *testing.T, m api.Msg) {
	t.Helper()
	for _, m.Pay = range []api.Account{0, 1, 0xFF00} {
		for _, m.Get = range []api.Account{0, 1, 0xFF00} {
			for _, m.Amount = range []api.Amount{0, 1, 1 << 24, api.MaxAmount} {
				for _, m.Memo = range []string{"", "\x00", "sixteen letters.", "seventeen letters", "\xff"} {
					want := wanted(m)
					checkEncode(t, m, want)
					if want == api.OK {
						checkDecode(t, spelled(m), m, api.OK)
					} else {
						checkDecode(t, spelled(m), api.Msg{}, want)
					}
				}
			}
		}
	}
}

// Long and wild inputs end without a panic, and what comes with an error is empty.
func TestP1AnyInput(t *testing.T) {
	r := rand.New(rand.NewSource(1))
	for i := 0; i < 200000; i++ {
		b := make([]byte, r.Intn(300))
		r.Read(b)
		if len(b) > 17 && i%2 == 0 {
			b[0], b[17] = 'E', byte(len(b)-22)
		}
		s := string(b)
		if i%4 == 0 {
			s = sealed(s)
		}
		if m, e := escrow.Decode(s); e != api.OK && m != (api.Msg{}) {
			t.Fatalf("Decode(%x) = %+v, %d", s, m, e)
		}
		if f, e := escrow.Encode(withMemo(s)); (e == api.OK) == (f == "") {
			t.Fatalf("Encode with the memo %x = %x, %d", s, f, e)
		}
	}
	long := strings.Repeat("E", 1<<24)
	checkDecode(t, long, api.Msg{}, api.ErrFrame)
	checkEncode(t, withMemo(long), api.ErrMemo)
	checkEncode(t, withMemo(long+"\xff"), api.ErrMemo)
	if got, want := escrow.Sum(long), crc32.ChecksumIEEE([]byte(long)); got != want {
		t.Errorf("Sum of %d bytes = %d, want %d", len(long), got, want)
	}
}

// The answers are the same whatever was asked in between.
func TestP2SameAnswerAgain(t *testing.T) {
	first, _ := escrow.Encode(prepare())
	wrong := withMemo("\xff")
	for i := 0; i < 3; i++ {
		checkEncode(t, prepare(), api.OK)
		checkEncode(t, wrong, api.ErrMemo)
		checkEncode(t, api.Msg{Kind: api.Done, From: 7, Leg: 3}, api.OK)
		checkDecode(t, first, prepare(), api.OK)
		checkDecode(t, first[1:], api.Msg{}, api.ErrFrame)
		checkDecode(t, spelled(wrong), api.Msg{}, api.ErrMemo)
		if c := escrow.Sum("123456789"); c != 3421780262 {
			t.Errorf("time %d: Sum = %d", i, c)
		}
	}
}

// What was handed in is as it was: bytes that a frame and a memo were cut out of, and a message.
func TestP2NothingWritten(t *testing.T) {
	frame := spelled(prepare())
	around := "ahead" + frame + "behind"
	before := strings.Clone(around)
	checkDecode(t, around[5:5+len(frame)], prepare(), api.OK)
	m := withMemo(around[:5])
	checkEncode(t, m, api.OK)
	if around != before || m != withMemo("ahead") {
		t.Errorf("%x, was %x; %+v", around, before, m)
	}
}

func TestP3Examples(t *testing.T) {
	for s, want := range map[string]uint32{"": 0, "a": 3904355907, "123456789": 3421780262} {
		if c := escrow.Sum(s); c != want {
			t.Errorf("Sum(%q) = %d, want %d", s, c, want)
		}
	}
}

func TestP3AsTheLibrary(t *testing.T) {
	r := rand.New(rand.NewSource(3))
	texts := []string{strings.Repeat("\x00", 300), strings.Repeat("\xff", 300), "é\x00"}
	for i := 0; i < 256; i++ {
		b := make([]byte, i)
		r.Read(b)
		texts = append(texts, string([]byte{byte(i)}), string(b))
	}
	for _, s := range texts {
		if c, want := escrow.Sum(s), crc32.ChecksumIEEE([]byte(s)); c != want {
			t.Errorf("Sum(%x) = %d, want %d", s, c, want)
		}
	}
}

func TestP4Layout(t *testing.T) {
	want := sealed("\x45\x01\x00\x03\x00\x00\x01\x02\x01\x00\x05\x00\x06\x00\x00\x03\xe8\x02\xc3\xa9")
	if s, e := escrow.Encode(prepare()); s != want || e != api.OK || len(s) != 24 {
		t.Errorf("example 2: %x, %d, want %x", s, e, want)
	}
	m := api.Msg{Kind: 1, To: 7, ID: 0x01020304, Leg: 3, Pay: 0x0506, Get: 0x0708, Amount: 0x090A0B0C}
	want = sealed("E\x01\x00\x07\x01\x02\x03\x04\x03\x05\x06\x07\x08\x09\x0a\x0b\x0c\x00")
	if s, e := escrow.Encode(m); s != want || e != api.OK || len(s) != api.Header {
		t.Errorf("every byte: %x, %d, want %x", s, e, want)
	}
	m = api.Msg{Kind: 5, From: 6, ID: 0xFFFEFDFC, Leg: 2}
	want = sealed("E\x05\x06\x00\xff\xfe\xfd\xfc\x02" + strings.Repeat("\x00", 9))
	if s, e := escrow.Encode(m); s != want || e != api.OK {
		t.Errorf("Refused: %x, %d, want %x", s, e, want)
	}
}

func TestP4WrongMessages(t *testing.T) {
	checkEncode(t, api.Msg{}, api.ErrKind)
	checkEncode(t, api.Msg{Kind: api.Done, To: 3}, api.ErrNode)
	checkEncode(t, api.Msg{Kind: api.Done, From: 3, Amount: 1}, api.ErrKind)
	checkEncode(t, api.Msg{Kind: api.Done, From: 3, Pay: 1}, api.ErrKind)
	checkEncode(t, api.Msg{Kind: api.Done, From: 3, Get: 1}, api.ErrKind)
	checkEncode(t, api.Msg{Kind: api.Done, From: 3, Memo: "a"}, api.ErrKind)
	m := prepare()
	m.To = 8
	checkEncode(t, m, api.ErrNode)
	m = prepare()
	m.Leg = 4
	checkEncode(t, m, api.ErrLeg)
	m = prepare()
	m.Amount = 0
	checkEncode(t, m, api.ErrAmount)
	// An account may pay itself, and the account 0 is one: P4 names no error of them.
	m = prepare()
	m.Pay, m.Get = 0, 0
	checkEncode(t, m, api.OK)
}

// Each kind over each pair of nodes.
func TestP4Nodes(t *testing.T) {
	for kind := api.Prepare; kind <= api.Done; kind++ {
		for pair := 0; pair < 1<<16; pair++ {
			m := api.Msg{Kind: kind, From: api.Node(pair >> 8), To: api.Node(pair & 255)}
			if kind == api.Prepare {
				m.Amount = 1
			}
			checkEncode(t, m, wanted(m))
		}
	}
}

func TestP4MemoLength(t *testing.T) {
	for _, c := range []string{"a", "\x00", "é", "€", "\uFFFD", "😀"} {
		checkMemo(t, strings.Repeat(c, 15), api.OK)
		checkMemo(t, strings.Repeat(c, 16), api.OK)
		checkMemo(t, strings.Repeat(c, 17), api.ErrMemo)
		checkMemo(t, strings.Repeat(c, 300), api.ErrMemo)
		checkMemo(t, strings.Repeat(c, 16)+"\xff", api.ErrMemo)
	}
	checkMemo(t, "", api.OK)
	checkMemo(t, "aé€😀aé€😀aé€😀aé€😀", api.OK)
	checkMemo(t, "aé€😀aé€😀aé€😀aé€😀a", api.ErrMemo)
	if s, e := escrow.Encode(withMemo(strings.Repeat("é", 16))); len(s) != 54 || e != api.OK {
		t.Errorf("example 2: 16 times é: %d bytes, %d", len(s), e)
	}
}

func TestP4MemoBytes(t *testing.T) {
	for _, s := range []string{"\xc3\x28", "\xed\xa0\x80", "\xc0\x80", "\xc3", "\x80", "a\xe2\x82", "\xf0\x9f\x98", "\xff"} {
		checkMemo(t, s, api.ErrMemo)
	}
	for i := 0; i < 1<<16; i++ {
		s := string([]byte{byte(i >> 8), byte(i)})
		checkMemo(t, s, wanted(withMemo(s)))
	}
	for c := rune(0); c <= utf8.MaxRune; c++ {
		if _, e := escrow.Encode(withMemo(string([]rune{c}))); e != api.OK {
			t.Fatalf("U+%04X: %d", c, e)
		}
	}
}

// Three and four bytes, each at the edges of what may stand there.
func TestP4MemoEdges(t *testing.T) {
	edges := "\x00\x7f\x80\x8f\x90\x9f\xa0\xbf\xc0\xc1\xc2\xdf\xe0\xe1\xec\xed\xee\xef\xf0\xf1\xf3\xf4\xf5\xff"
	for a := range len(edges) {
		for b := range len(edges) {
			for c := range len(edges) {
				s := string([]byte{edges[a], edges[b], edges[c]})
				checkMemo(t, s, wanted(withMemo(s)))
				for d := range len(edges) {
					s := string([]byte{edges[a], edges[b], edges[c], edges[d]})
					checkEncode(t, withMemo(s), wanted(withMemo(s)))
				}
			}
		}
	}
}

func TestP5Form(t *testing.T) {
	good := spelled(prepare())
	bare := spelled(api.Msg{Kind: api.Done, From: 3})
	checkDecode(t, good, prepare(), api.OK)
	checkDecode(t, bare, api.Msg{Kind: api.Done, From: 3}, api.OK)
	for n := range len(good) {
		checkDecode(t, good[:n], api.Msg{}, api.ErrFrame)
		if n != 20 {
			checkDecode(t, sealed(good[:n]), api.Msg{}, api.ErrFrame)
		}
	}
	for n := range 18 {
		checkDecode(t, sealed(strings.Repeat("E", n)), api.Msg{}, api.ErrFrame)
	}
	for first := 0; first < 256; first++ {
		if first != 'E' {
			checkDecode(t, sealed(string([]byte{byte(first)})+good[1:20]), api.Msg{}, api.ErrFrame)
		}
	}
	checkDecode(t, good+"\x00", api.Msg{}, api.ErrFrame)
	checkDecode(t, good+good, api.Msg{}, api.ErrFrame)
	checkDecode(t, sealed(good[:20]+"a"), api.Msg{}, api.ErrFrame)
	checkDecode(t, sealed(good[:17]+"\x01"+good[18:20]), api.Msg{}, api.ErrFrame)
	checkDecode(t, sealed(good[:17]+"\x03"+good[18:20]), api.Msg{}, api.ErrFrame)
}

func TestP5Sum(t *testing.T) {
	good := spelled(prepare())
	for i := range len(good) {
		for bit := range 8 {
			b := []byte(good)
			b[i] ^= 1 << bit
			want := api.ErrSum
			if i == 0 || i == 17 {
				want = api.ErrFrame
			}
			checkDecode(t, string(b), api.Msg{}, want)
		}
	}
	// The sum's bytes in another order are another sum.
	checkDecode(t, good[:20]+string([]byte{good[23], good[22], good[21], good[20]}), api.Msg{}, api.ErrSum)
	// A wrong sum is told ahead of what a message says wrong.
	wrong := []byte(spelled(api.Msg{Kind: 9, To: 9, Leg: 9}))
	checkDecode(t, string(wrong), api.Msg{}, api.ErrKind)
	wrong[21] ^= 1
	checkDecode(t, string(wrong), api.Msg{}, api.ErrSum)
}

func TestP5WrongMessages(t *testing.T) {
	checkDecode(t, spelled(api.Msg{Kind: 0, To: 3}), api.Msg{}, api.ErrKind)
	checkDecode(t, spelled(api.Msg{Kind: 7, To: 3}), api.Msg{}, api.ErrKind)
	checkDecode(t, spelled(api.Msg{Kind: api.Done, To: 3}), api.Msg{}, api.ErrNode)
	checkDecode(t, spelled(api.Msg{Kind: api.Execute, To: 3, Leg: 4}), api.Msg{}, api.ErrLeg)
	checkDecode(t, spelled(api.Msg{Kind: api.Prepare, To: 3}), api.Msg{}, api.ErrAmount)
	checkDecode(t, spelled(api.Msg{Kind: api.Reject, To: 3, Memo: "a"}), api.Msg{}, api.ErrKind)
	checkDecode(t, spelled(withMemo("\xed\xa0\x80")), api.Msg{}, api.ErrMemo)
	// A frame's length byte can name far more than a memo may have.
	checkDecode(t, spelled(withMemo(strings.Repeat("a", 255))), api.Msg{}, api.ErrMemo)
	checkDecode(t, spelled(withMemo(strings.Repeat("😀", 63))), api.Msg{}, api.ErrMemo)
}

// Every message that Encode takes comes back.
func TestP5BackAgain(t *testing.T) {
	r := rand.New(rand.NewSource(5))
	memos := []string{"", "a", "é", "\x00\x00", "sixteen letters.", strings.Repeat("😀", 16)}
	for i := 0; i < 20000; i++ {
		bank := api.Node(1 + r.Intn(7))
		m := api.Msg{Kind: api.Kind(1 + r.Intn(6)), ID: api.ID(r.Uint32()), Leg: uint8(r.Intn(4))}
		if m.Kind <= api.Reject {
			m.To = bank
		} else {
			m.From = bank
		}
		if m.Kind == api.Prepare {
			m.Pay, m.Get = api.Account(r.Uint32()), api.Account(r.Uint32())
			m.Amount, m.Memo = api.Amount(r.Uint32()|1), memos[r.Intn(len(memos))]
		}
		checkEncode(t, m, api.OK)
		checkDecode(t, spelled(m), m, api.OK)
	}
}
