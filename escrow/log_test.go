package escrow_test

import (
	"fmt"
	"math/rand"
	"slices"
	"strings"
	"testing"
	"unsafe"

	"escrow/api"
	"escrow/escrow"
)

// call is a call that may change a node, a Bank or a Deed.
type call[N any] func(*N) ([]string, string, api.Errno)

type (
	bankCall = call[escrow.Bank]
	deedCall = call[escrow.Deed]
)

func opening(a api.Account, balance api.Amount) bankCall {
	return func(b *escrow.Bank) ([]string, string, api.Errno) {
		log, e := b.Open(a, balance)
		return nil, log, e
	}
}

func handing(m api.Msg) bankCall {
	return func(b *escrow.Bank) ([]string, string, api.Errno) { return b.Handle(spelled(m)) }
}

func submitting(p api.Payment) deedCall {
	return func(d *escrow.Deed) ([]string, string, api.Errno) { return d.Submit(p) }
}

func hearing(m api.Msg) deedCall {
	return func(d *escrow.Deed) ([]string, string, api.Errno) { return d.Handle(spelled(m)) }
}

func ticking(d *escrow.Deed) ([]string, string, api.Errno) { return d.Tick() }

// trail is a node with the log that it has left behind, and with others that were restored from that on the way and
// have gone on beside it.
type trail[N any] struct {
	t       *testing.T
	r       *rand.Rand
	node    *N
	log     string
	twins   []*N
	restore func(log string) (*N, api.Errno)
	sight   func(*N) string
	every   bool // whether each place is tried at which a log text may be cut off, or one alone
}

func bankTrail(t *testing.T, n api.Node) *trail[escrow.Bank] {
	t.Helper()
	return &trail[escrow.Bank]{t: t, r: rand.New(rand.NewSource(int64(n))), node: newBank(t, n), every: true, sight: sight,
		restore: func(log string) (*escrow.Bank, api.Errno) { return escrow.RestoreBank(n, log) }}
}

// deedTrail is shown by all that is known of these payments.
func deedTrail(t *testing.T, known func() []api.Payment) *trail[escrow.Deed] {
	t.Helper()
	return &trail[escrow.Deed]{t: t, r: rand.New(rand.NewSource(4)), node: newDesk(t).d, every: true, restore: escrow.RestoreDeed,
		sight: func(d *escrow.Deed) string { return deedSight(t, d, known()) }}
}

// deedSight is a desk's sight, with those of the payments that the notary keeps under their number.
func deedSight(t *testing.T, d *escrow.Deed, known []api.Payment) string {
	t.Helper()
	kept := []api.Payment{}
	for _, p := range known {
		if _, e := d.Status(p.ID); e == api.OK {
			kept = append(kept, p)
		}
	}
	return (&desk{t: t, d: d, kept: kept}).sight()
}

func these(payments ...api.Payment) func() []api.Payment {
	return func() []api.Payment { return payments }
}

// back restores a node from a log that must be taken.
func (x *trail[N]) back(log string) *N {
	x.t.Helper()
	node, e := x.restore(log)
	if node == nil || e != api.OK {
		x.t.Fatalf("restored from %x: %v, %d", log, node, e)
	}
	return node
}

// do makes a call on the node and on all its twins. It asks that what changes the node is logged, that the twins
// answer the same (log too), and that a node whose last log text was cut off is as it was ahead of the call.
func (x *trail[N]) do(c call[N]) ([]string, string, api.Errno) {
	x.t.Helper()
	before := x.sight(x.node)
	out, text, e := c(x.node)
	after := x.sight(x.node)
	if before != after && text == "" {
		x.t.Fatalf("a change that is not logged:\n%s\nwas\n%s", after, before)
	}
	if e != api.OK && (before != after || text != "" || len(out) != 0) {
		x.t.Fatalf("with the error %d: %x, %x\n%s\nwas\n%s", e, out, text, after, before)
	}
	for _, twin := range x.twins {
		x.same(twin, c, out, text, e, after)
	}
	x.cutOff(c, out, text, e, before, after)
	x.log += text
	whole := x.back(x.log)
	if s := x.sight(whole); s != after {
		x.t.Fatalf("restored from %x:\n%s\nwant\n%s", x.log, s, after)
	}
	x.join(whole)
	return out, text, e
}

// same asks that a call on another node answers the same and leaves it in the same way.
func (x *trail[N]) same(other *N, c call[N], out []string, text string, e api.Errno, after string) {
	x.t.Helper()
	out2, text2, e2 := c(other)
	if !slices.Equal(out, out2) || text != text2 || e != e2 {
		x.t.Fatalf("a restored node answered %x, %x, %d, want %x, %x, %d", out2, text2, e2, out, text, e)
	}
	if s := x.sight(other); s != after {
		x.t.Fatalf("a restored node went another way:\n%s\nwant\n%s", s, after)
	}
}

// cutOff restores from the log with only some of the first bytes of a text behind it. The call, made then, must do
// what it did, and its text belongs behind the log without those bytes.
func (x *trail[N]) cutOff(c call[N], out []string, text string, e api.Errno, before, after string) {
	x.t.Helper()
	cuts := []int{}
	for n := range len(text) {
		cuts = append(cuts, n)
	}
	if !x.every && len(cuts) > 1 {
		cuts = []int{x.r.Intn(len(cuts))}
	}
	for _, n := range cuts {
		node := x.back(x.log + text[:n])
		if s := x.sight(node); s != before {
			x.t.Fatalf("of the last text %x only %d bytes:\n%s\nwant\n%s", text, n, s, before)
		}
		x.same(node, c, out, text, e, after)
		if n == len(text)/2 {
			x.join(node)
		}
	}
}

// join lets a restored node go on beside the others; so that they do not become too many, it may take a place.
func (x *trail[N]) join(node *N) {
	if len(x.twins) < 4 {
		x.twins = append(x.twins, node)
		return
	}
	x.twins[x.r.Intn(4)] = node
}

// logs asks that a call changes the node, by what its log says.
func (x *trail[N]) logs(c call[N]) {
	x.t.Helper()
	if _, text, e := x.do(c); text == "" || e != api.OK {
		x.t.Fatalf("log %x, %d", text, e)
	}
}

// fails asks that a call comes to an error.
func (x *trail[N]) fails(c call[N], want api.Errno) {
	x.t.Helper()
	if _, _, e := x.do(c); e != want {
		x.t.Fatalf("%d, want %d", e, want)
	}
}

// Each way in which a call changes a bank, and calls in between that do not.
func TestP12Bank(t *testing.T) {
	x := bankTrail(t, 3)
	x.logs(opening(5, 1500))
	x.logs(opening(6, 0))
	x.fails(opening(5, 1), api.ErrExists)
	x.logs(opening(0, api.MaxAmount))
	x.logs(opening(20, 0x01020304))
	x.logs(handing(prepare()))
	x.do(handing(prepare()))
	x.fails(handing(withMemo("e")), api.ErrConflict)
	x.logs(handing(asking(2, 0, 5, 6, 501)))
	x.do(handing(asking(2, 0, 5, 6, 501)))
	x.fails(handing(saying(api.Execute, 2, 0)), api.ErrState)
	x.logs(handing(saying(api.Execute, 258, 1)))
	x.do(handing(saying(api.Execute, 258, 1)))
	x.do(handing(prepare()))
	x.fails(handing(saying(api.Reject, 258, 1)), api.ErrState)
	x.logs(handing(saying(api.Reject, 2, 0)))
	x.do(handing(saying(api.Reject, 2, 0)))
	x.fails(handing(asking(2, 0, 5, 6, 502)), api.ErrConflict)
	x.logs(handing(saying(api.Reject, 3, 0)))
	x.do(handing(asking(3, 0, 5, 6, 1)))
	x.do(handing(asking(3, 0, 6, 5, 2)))
	x.logs(handing(asking(4, 3, 6, 5, 7)))
	x.logs(opening(7, 7))
	x.logs(handing(asking(4, 2, 7, 6, 7)))
	x.logs(handing(saying(api.Reject, 4, 3)))
	m := asking(5, 0, 20, 5, 0x010203)
	for i, memo := range []string{"\x00", "O", "E", "sixteen letters.", strings.Repeat("\U0010FFFF", 16)} {
		m.ID, m.Memo = api.ID(5+i), memo
		x.logs(handing(m))
	}
	m.To = 4
	x.fails(handing(m), api.ErrNode)
	x.fails(handing(api.Msg{Kind: 9, To: 3}), api.ErrKind)
	funds(t, x.node, 20, 0x01020304, 5*0x010203, 0)
	funds(t, x.twins[0], 20, 0x01020304, 5*0x010203, 0)
}

// The least and the greatest of all numbers that a bank's log holds.
func TestP12BankEdges(t *testing.T) {
	x := bankTrail(t, 3)
	x.logs(opening(0, 0))
	x.logs(opening(65535, api.MaxAmount))
	x.logs(opening(0x0102, 0xFFFE0000))
	x.logs(handing(asking(1<<32-1, 3, 65535, 0, api.MaxAmount)))
	x.logs(handing(asking(0x01020304, 0, 0x0102, 65535, 1)))
	x.logs(handing(asking(0, 2, 0x0102, 0x0102, 1)))
	b := x.back(x.log)
	funds(t, b, 0, 0, 0, api.MaxAmount)
	funds(t, b, 65535, api.MaxAmount, api.MaxAmount, 0)
	funds(t, b, 0x0102, 0xFFFE0000, 1, 1)
	stands(t, b, 1<<32-1, 3, api.Held)
	stands(t, b, 0x01020304, 0, api.Denied)
	stands(t, b, 0, 2, api.Held)
	answer(t, b, saying(api.Execute, 1<<32-1, 3), api.Done)
	funds(t, b, 0, api.MaxAmount, 0, 0)
}

// Each way in which a call changes a notary, and calls in between that do not.
func TestP12Deed(t *testing.T) {
	p, far := seven(), paying(1<<32-2, 1<<64-2, 1, 2, 7, 7)
	late := paying(8, 3, 4, 5)
	late.Memo = strings.Repeat("\U0010FFFF", 16)
	bare := api.Payment{ID: 9, Deadline: 0x0102030405060708, Legs: []api.Leg{{Bank: 7, Pay: 65535, Get: 0, Amount: api.MaxAmount}}}
	x := deedTrail(t, these(p, far, late, bare))
	x.logs(submitting(p))
	x.do(submitting(p))
	other := seven()
	other.Legs[1].Get++
	x.fails(submitting(other), api.ErrConflict)
	x.logs(hearing(word(p, api.Prepared, 0)))
	x.do(hearing(word(p, api.Prepared, 0)))
	x.fails(hearing(word(p, api.Done, 0)), api.ErrState)
	x.logs(submitting(far))
	x.logs(ticking)
	x.logs(hearing(word(p, api.Prepared, 1)))
	x.do(hearing(word(p, api.Prepared, 1)))
	x.logs(hearing(word(p, api.Done, 1)))
	x.do(hearing(word(p, api.Done, 1)))
	x.fails(hearing(word(p, api.Refused, 1)), api.ErrState)
	x.logs(submitting(late))
	x.logs(hearing(word(late, api.Prepared, 1)))
	x.logs(ticking)
	x.logs(ticking)
	x.do(hearing(word(late, api.Prepared, 0)))
	x.do(hearing(word(late, api.Refused, 0)))
	x.logs(hearing(word(late, api.Done, 0)))
	x.logs(submitting(bare))
	x.logs(hearing(word(far, api.Prepared, 3)))
	x.logs(hearing(word(far, api.Refused, 2)))
	x.do(hearing(word(far, api.Refused, 3)))
	x.logs(ticking)
	x.fails(submitting(paying(10, 4, 1)), api.ErrDeadline)
	x.fails(hearing(word(paying(11, 4, 1), api.Prepared, 0)), api.ErrUnknown)
	x.logs(hearing(word(p, api.Done, 0)))
	d := &desk{t: t, d: x.twins[0], kept: []api.Payment{p, far, late, bare}}
	d.stands(7, api.Accepted, 3, 3)
	d.stands(far.ID, api.Rejected, 8, 0)
	d.stands(8, api.Rejected, 2, 1)
	d.tick(slices.Concat(sent(late, api.Reject, 1), sent(bare, api.Prepare, 0), sent(far, api.Reject, 0, 1, 2, 3))...)
}

// A log without a text: a node that is new.
func TestP12Nothing(t *testing.T) {
	for n := api.Node(1); n <= 7; n++ {
		b, e := escrow.RestoreBank(n, "")
		if b == nil || e != api.OK || sight(b) != "[]\n" {
			t.Fatalf("bank %d: %v, %d", n, b, e)
		}
		noAccount(t, b, 0)
		m := saying(api.Reject, 1, 2)
		m.To = n
		answer(t, b, m, api.Done)
	}
	d, e := escrow.RestoreDeed("")
	if d == nil || e != api.OK || d.Clock() != 0 {
		t.Fatalf("notary: %v, %d", d, e)
	}
	x := &desk{t: t, d: d}
	x.isUnknown(0)
	x.tick()
	x.takeIn(seven())
}

// ErrNode as NewBank, and ahead of ErrLog.
func TestP12Node(t *testing.T) {
	for _, n := range []api.Node{1, 3, 7} {
		x := bankTrail(t, n)
		x.logs(opening(5, 1500))
		m := prepare()
		m.To = n
		x.logs(handing(m))
		for i := range 256 {
			to := api.Node(i)
			if 1 <= to && to <= 7 {
				continue
			}
			for _, log := range []string{"", x.log, x.log[1:], x.log[:len(x.log)-1], "x", strings.Repeat("\xff", 100)} {
				if b, e := escrow.RestoreBank(to, log); b != nil || e != api.ErrNode {
					t.Fatalf("RestoreBank(%d, %x) = %v, %d", to, log, b, e)
				}
			}
		}
	}
}

// A bank and a notary that keep all they can, with the longest memos.
func TestP12Full(t *testing.T) {
	memo := strings.Repeat("😀", 16)
	x := bankTrail(t, 3)
	x.every = false
	for a := api.Account(16); a > 0; a-- {
		x.logs(opening(a, api.MaxAmount-api.Amount(a)))
	}
	x.fails(opening(17, 1), api.ErrFull)
	for id := api.ID(32); id > 0; id-- {
		for leg := uint8(0); leg < 4; leg++ {
			m := asking(id, leg, api.Account(1+id/2), api.Account(1+leg), 1)
			m.Memo = memo
			x.logs(handing(m))
		}
	}
	x.fails(handing(saying(api.Reject, 33, 0)), api.ErrFull)
	x.logs(handing(saying(api.Reject, 2, 3)))
	x.fails(handing(asking(33, 0, 1, 2, 3)), api.ErrFull)

	all := []api.Payment{}
	y := deedTrail(t, func() []api.Payment { return all })
	y.every = false
	for id := api.ID(32); id > 0; id-- {
		p := paying(id*9, 1<<64-api.MaxPayments+uint64(id)-1, 7, 6, 6, 1)
		p.Memo = memo
		all = append(all, p)
		y.logs(submitting(p))
	}
	y.fails(submitting(paying(1, 9, 1)), api.ErrFull)
	y.logs(ticking)
	y.logs(hearing(word(all[31], api.Prepared, 3)))
	y.fails(submitting(paying(1, 9, 1)), api.ErrFull)
}

// A notary whose clock stands at its end, and one that was restored a tick ahead of that.
func TestP12ClockEnds(t *testing.T) {
	d, ahead := escrow.NewDeed(), strings.Builder{}
	p := paying(7, api.MaxClock, 5)
	lay := func(out []string, text string, e api.Errno) {
		if e != api.OK || text == "" {
			t.Fatalf("%x, %x, %d at %d", out, text, e, d.Clock())
		}
		ahead.WriteString(text)
	}
	for id := api.ID(100); id < 131; id++ {
		p := paying(id, 1<<64-1, 1)
		lay(d.Submit(p))
		lay(d.Handle(spelled(word(p, api.Refused, 0))))
		lay(d.Handle(spelled(word(p, api.Done, 0))))
	}
	for range api.MaxClock - 2 {
		lay(d.Tick())
	}
	lay(d.Submit(p))
	lay(d.Tick())
	out, text, e := d.Tick()
	if e != api.OK || text == "" || !slices.Equal(out, sent(p, api.Reject, 0)) {
		t.Fatalf("the last tick: %x, %x, %d", out, text, e)
	}
	for n := range len(text) + 1 {
		y, e := escrow.RestoreDeed(ahead.String() + text[:n])
		if y == nil || e != api.OK {
			t.Fatalf("%v, %d", y, e)
		}
		back := &desk{t: t, d: y, kept: []api.Payment{p}}
		if n < len(text) {
			back.stands(7, api.Pending, 0, 0)
			back.tick(sent(p, api.Reject, 0)...)
		}
		back.unchanged(deedSight(t, d, these(p)()), "restoring")
		if out, log, e := y.Tick(); len(out) != 0 || log != "" || e != api.ErrTime {
			t.Fatalf("Tick() = %x, %x, %d, want ErrTime", out, log, e)
		}
	}
}

// Long walks of a bank, of which some are restored on the way.
func TestP12BankWalks(t *testing.T) {
	for seed := range int64(6) {
		r := rand.New(rand.NewSource(seed))
		x := bankTrail(t, 3)
		x.r, x.every = r, false
		ids := 4 + r.Intn(60)
		for range 300 {
			if r.Intn(20) == 0 {
				x.do(opening(api.Account(r.Intn(20)), someAmount(r)))
			}
			x.do(handing(someMessage(r, ids)))
		}
	}
}

// Long walks of a notary, beside the model, which tells of what its payments are.
func TestP12DeedWalks(t *testing.T) {
	for seed := range int64(6) {
		r := rand.New(rand.NewSource(seed))
		model := &modelDeed{kept: map[api.ID]*modelPayment{}}
		known := []api.Payment{}
		x := deedTrail(t, func() []api.Payment { return known })
		x.r, x.every = r, false
		ids := 3 + r.Intn(60)
		for range 300 {
			switch r.Intn(8) {
			case 0:
				model.tick()
				x.logs(ticking)
			case 1, 2:
				p := somePayment(r, ids, model.clock)
				_, want := model.submit(p)
				if want == api.OK {
					known = append(known, p)
				}
				x.fails(submitting(p), want)
			default:
				m := someWord(r, ids, model)
				_, want := model.handle(m)
				x.fails(hearing(m), want)
			}
		}
		checkDeed(&desk{t: t, d: x.node}, model, ids)
		checkDeed(&desk{t: t, d: x.back(x.log)}, model, ids)
	}
}

// bankLog is the log of a bank 3 that has been through much, deedLog a notary's; with the places behind its texts.
func bankLog(t *testing.T) (string, []int) {
	t.Helper()
	x, ends := bankTrail(t, 3), []int{}
	m := asking(5, 0, 5, 6, 3)
	m.Memo = "O\x00\x05\x00\x00\x00\x01é"
	for _, c := range []bankCall{opening(5, 1500), opening(6, 0), handing(prepare()), handing(asking(2, 0, 5, 6, 501)),
		handing(saying(api.Reject, 2, 0)), handing(saying(api.Execute, 258, 1)), handing(saying(api.Reject, 3, 0)), handing(m)} {
		x.logs(c)
		ends = append(ends, len(x.log))
	}
	return x.log, ends
}

func deedLog(t *testing.T) (string, []int) {
	t.Helper()
	p, q := seven(), paying(8, 3, 4, 4, 4)
	q.Memo = "TTTTS\x00é"
	x, ends := deedTrail(t, these(p, q)), []int{}
	for _, c := range []deedCall{submitting(p), ticking, hearing(word(p, api.Prepared, 0)), submitting(q), hearing(word(p, api.Prepared, 1)),
		ticking, hearing(word(q, api.Prepared, 2)), ticking, hearing(word(q, api.Done, 1)), hearing(word(p, api.Done, 0)), ticking} {
		x.logs(c)
		ends = append(ends, len(x.log))
	}
	return x.log, ends
}

// anyText asks of texts that perhaps no node has left behind: a node and OK, or nil and ErrLog; and that what comes
// out can be gone on with.
func anyText(t *testing.T, s string) {
	t.Helper()
	b, e := escrow.RestoreBank(3, s)
	if (b == nil) != (e == api.ErrLog) || (b != nil) != (e == api.OK) {
		t.Fatalf("RestoreBank(3, %.300x) = %v, %d", s, b, e)
	}
	if b != nil {
		b.Open(9, 9)
		b.Handle(spelled(prepare()))
		b.Handle(spelled(saying(api.Execute, 258, 1)))
		b.Handle(spelled(saying(api.Reject, 5, 0)))
		b.Tick()
		b.Funds(5)
	}
	d, e := escrow.RestoreDeed(s)
	if (d == nil) != (e == api.ErrLog) || (d != nil) != (e == api.OK) {
		t.Fatalf("RestoreDeed(%.300x) = %v, %d", s, d, e)
	}
	if d != nil {
		d.Submit(paying(9, 1<<64-1, 1, 2))
		for _, k := range []api.Kind{api.Prepared, api.Refused, api.Done} {
			d.Handle(spelled(word(seven(), k, 1)))
		}
		d.Tick()
		d.Status(7)
	}
}

func TestP1AnyLog(t *testing.T) {
	r := rand.New(rand.NewSource(21))
	ofBank, bankEnds := bankLog(t)
	ofDeed, deedEnds := deedLog(t)
	firsts := "OESTx\x00\xff"
	for i := 0; i < 256; i++ {
		for _, n := range []int{1, 2, 7, 21, 22, 23, 300} {
			anyText(t, strings.Repeat(string([]byte{byte(i)}), n))
		}
	}
	for range 30000 {
		s := make([]byte, r.Intn(120))
		r.Read(s)
		if len(s) > 20 {
			s[0], s[13], s[14], s[17] = firsts[r.Intn(len(firsts))], byte(r.Intn(7)), byte(r.Intn(70)), byte(r.Intn(70))
		}
		anyText(t, string(s))
		anyText(t, sealed(string(s)))
	}
	for _, x := range []struct {
		log  string
		ends []int
	}{{ofBank, bankEnds}, {ofDeed, deedEnds}} {
		for i := range len(x.log) {
			anyText(t, x.log[i:])
			for range 10 {
				s := []byte(x.log)
				s[i] ^= byte(1 + r.Intn(255))
				anyText(t, string(s))
			}
		}
		// Texts that are left out, doubled and turned round.
		for range 2000 {
			s := ""
			for range 1 + r.Intn(12) {
				i := r.Intn(len(x.ends))
				s += x.log[append([]int{0}, x.ends...)[i]:x.ends[i]]
			}
			anyText(t, s)
		}
	}
	for _, s := range []string{"O", "T", "S", "E", "\x00", ofBank, ofDeed} {
		anyText(t, strings.Repeat(s, 1<<22/len(s)))
	}
}

// The log of a bank with another number, and of the other kind of node, are other texts too.
func TestP1OthersLog(t *testing.T) {
	ofBank, _ := bankLog(t)
	ofDeed, _ := deedLog(t)
	anyText(t, ofBank)
	anyText(t, ofDeed)
	for n := api.Node(1); n <= 7; n++ {
		b, e := escrow.RestoreBank(n, ofBank)
		if (b == nil) != (e == api.ErrLog) || (b != nil) != (e == api.OK) {
			t.Errorf("RestoreBank(%d) = %v, %d", n, b, e)
		}
	}
}

// A node that was restored, the one that has left the log, and a second one that was restored go their own ways.
func TestP2RestoredApart(t *testing.T) {
	x := bankTrail(t, 3)
	x.logs(opening(5, 1500))
	x.logs(opening(6, 0))
	x.logs(handing(asking(1, 0, 5, 6, 10)))
	for leg := range uint8(3) {
		x.logs(handing(asking(2, leg, 5, 6, 10)))
		a, b := x.back(x.log), x.back(x.log)
		before := sight(x.node)
		answer(t, a, saying(api.Execute, 1, 0), api.Done)
		answer(t, a, asking(0, 0, 5, 6, 1), api.Prepared)
		open(t, a, 8, 8, api.OK)
		if sight(x.node) != before || sight(b) != before {
			t.Fatalf("disturbed: %s\n%s\nwas\n%s", sight(x.node), sight(b), before)
		}
		before = sight(a)
		answer(t, b, saying(api.Reject, 1, 0), api.Done)
		open(t, b, 9, 9, api.OK)
		x.logs(handing(saying(api.Reject, 5, leg)))
		if sight(a) != before {
			t.Fatalf("disturbed: %s\nwas\n%s", sight(a), before)
		}
	}
	p, q := seven(), paying(5, 9, 1, 2, 3)
	y := deedTrail(t, these(p, q))
	y.logs(submitting(p))
	y.logs(hearing(word(p, api.Prepared, 0)))
	a, b := &desk{t: t, d: y.back(y.log), kept: []api.Payment{p}}, &desk{t: t, d: y.back(y.log), kept: []api.Payment{p}}
	before := b.sight()
	a.takeIn(q)
	a.hear(word(p, api.Prepared, 1), sent(p, api.Execute, 0, 1)...)
	a.tick(slices.Concat(sent(q, api.Prepare, 0, 1, 2), sent(p, api.Execute, 0, 1))...)
	b.unchanged(before, "another notary")
	(&desk{t: t, d: y.node, kept: []api.Payment{p}}).unchanged(before, "a restored notary")
	before = a.sight()
	y.logs(hearing(word(p, api.Refused, 1)))
	a.unchanged(before, "the notary that has left the log")
}

// A log whose bytes are used for something else afterwards: what the node kept of it must be its own, and nothing is
// written into it, nor into its spare room. And a log text that came out does not hang on what was handed in.
func TestP2LogNotKept(t *testing.T) {
	ofBank, _ := bankLog(t)
	ofDeed, _ := deedLog(t)
	for _, log := range []string{ofBank, ofDeed} {
		room := []byte(log + "spare room")
		handed, was := unsafe.String(&room[0], len(log)), string(room)
		b, _ := escrow.RestoreBank(3, handed)
		d, _ := escrow.RestoreDeed(handed)
		if string(room) != was {
			t.Fatalf("written into: %x, was %x", room, was)
		}
		copy(room, strings.Repeat("?", len(room)))
		if log == ofBank {
			answer(t, b, prepare(), api.Done)
			refuse(t, b, spelled(withMemo("??")), api.ErrConflict)
		} else {
			q := paying(8, 3, 4, 4, 4)
			q.Memo = "TTTTS\x00é"
			(&desk{t: t, d: d, kept: []api.Payment{q}}).submit(q, sent(q, api.Reject, 0, 2))
		}
	}
	frame := []byte(spelled(prepare()))
	_, text, _ := opened(t, 1500, 0).Handle(unsafe.String(&frame[0], len(frame)))
	was := strings.Clone(text)
	clear(frame)
	if text == "" || text != was {
		t.Errorf("a bank's log text is now %x, was %x", text, was)
	}
	d, memo := newDesk(t), []byte("memo")
	p := seven()
	p.Memo = unsafe.String(&memo[0], len(memo))
	_, text, _ = d.d.Submit(p)
	word := []byte(spelled(word(seven(), api.Prepared, 0)))
	_, heard, _ := d.d.Handle(unsafe.String(&word[0], len(word)))
	was = fmt.Sprintf("%x %x", text, heard)
	clear(memo)
	clear(word)
	if now := fmt.Sprintf("%x %x", text, heard); text == "" || heard == "" || now != was {
		t.Errorf("a notary's log texts are now %s, were %s", now, was)
	}
}

// Lists that a restored node answers are the caller's, too.
func TestP2RestoredFreshLists(t *testing.T) {
	ofBank, _ := bankLog(t)
	ofDeed, _ := deedLog(t)
	b, _ := escrow.RestoreBank(3, ofBank)
	d, _ := escrow.RestoreDeed(ofDeed)
	lists := func() [][]string {
		out, _, _ := b.Handle(spelled(prepare()))
		again, _, _ := d.Submit(seven())
		reminders, _, _ := d.Tick()
		return [][]string{b.Tick(), out, again, reminders}
	}
	want := fmt.Sprintf("%x", lists())
	for range 3 {
		all := lists()
		if got := fmt.Sprintf("%x", all); got != want {
			t.Fatalf("%s, want %s", got, want)
		}
		for _, list := range all {
			whole := list[:cap(list)]
			for i := range whole {
				whole[i] = "x"
			}
		}
	}
}
