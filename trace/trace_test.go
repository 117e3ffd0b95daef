package trace_test

import (
	"fmt"
	"math"
	"regexp"
	"slices"
	"strconv"
	"strings"
	"testing"

	"weighlock/api"
	"weighlock/trace"
)

// The kinds, by the numbers that the chapter names.
const (
	call     = 1
	enq      = 2
	arrive   = 3
	grant    = 4
	timeout  = 5
	unlock   = 6
	cameBack = 7
	refuse   = 8
)

// last is the last tick that may be: 2^40.
const last = 1099511627776

// named are the words of the kinds, in their order.
var named = []string{"call", "enq", "arrive", "grant", "timeout", "unlock", "return", "refuse"}

// of is an entry that doesn't lead.
func of(kind, thread, now int) trace.Entry {
	return trace.Entry{Kind: kind, Thread: thread, Now: now}
}

// leading is a Grant that leads.
func leading(thread, now int) trace.Entry {
	return trace.Entry{Kind: grant, Thread: thread, Now: now, Lead: true}
}

// at are entries, one a tick, of these kinds and threads by turns.
func at(kindsAndThreads ...int) []trace.Entry {
	var l []trace.Entry
	for pair := range slices.Chunk(kindsAndThreads, 2) {
		l = append(l, of(pair[0], pair[1], len(l)))
	}
	return l
}

// lineOf is the line that the chapter says of an entry that has one.
func lineOf(e trace.Entry) string {
	s := fmt.Sprintf("%s %d %d", named[e.Kind-1], e.Thread, e.Now)
	if e.Lead {
		s += " lead"
	}
	return s + "\n"
}

// linesOf are the lines of entries that have them.
func linesOf(l []trace.Entry) string {
	s := ""
	for _, e := range l {
		s += lineOf(e)
	}
	return s
}

// has tells whether the chapter says a line of an entry.
func has(e trace.Entry) bool {
	switch {
	case e.Kind < 1, e.Kind > 8, e.Thread < 0, e.Thread > 63, e.Now < 0, e.Now > last:
		return false
	}
	return !e.Lead || e.Kind == 4
}

// lineForm is what a line is, but for its greatest numbers.
var lineForm = regexp.MustCompile(`\A(?:(call|enq|arrive|grant|timeout|unlock|return|refuse) (0|[1-9][0-9]?) (0|[1-9][0-9]{0,12})|(grant) (0|[1-9][0-9]?) (0|[1-9][0-9]{0,12}) (lead))\n\z`)

// entryOf is the entry of a line, if it is one.
func entryOf(line string) (trace.Entry, bool) {
	m := lineForm.FindStringSubmatch(line)
	if m == nil {
		return trace.Entry{}, false
	}
	thread, _ := strconv.Atoi(m[2] + m[5])
	now, _ := strconv.Atoi(m[3] + m[6])
	e := trace.Entry{Kind: slices.Index(named, m[1]+m[4]) + 1, Thread: thread, Now: now, Lead: m[7] != ""}
	return e, thread <= 63 && now <= last
}

// entriesOf are the entries of lines, or the number of the first that is none.
func entriesOf(s string) ([]trace.Entry, int, bool) {
	lines := strings.SplitAfter(s, "\n")
	if lines[len(lines)-1] == "" {
		lines = lines[:len(lines)-1]
	}
	var l []trace.Entry
	for i, line := range lines {
		e, ok := entryOf(line)
		if !ok {
			return nil, i, false
		}
		l = append(l, e)
	}
	return l, len(l), true
}

// behind tells whether one of these kinds stands behind a place, of the same thread.
func behind(l []trace.Entry, place int, kinds ...int) bool {
	return slices.ContainsFunc(l[place+1:], func(e trace.Entry) bool {
		return e.Thread == l[place].Thread && slices.Contains(kinds, e.Kind)
	})
}

// holderOf is the Holder that the chapter says.
func holderOf(l []trace.Entry) (int, bool) {
	holder, held := 0, false
	for i, e := range l {
		if e.Kind == grant && !behind(l, i, unlock) {
			holder, held = e.Thread, true
		}
	}
	return holder, held
}

// waitersOf are those of Waiting that the chapter says.
func waitersOf(l []trace.Entry) []int {
	var w []int
	for i, e := range l {
		if e.Kind == call && !behind(l, i, grant, timeout, refuse) && !slices.Contains(w, e.Thread) {
			w = append(w, e.Thread)
		}
	}
	slices.Sort(w)
	return w
}

// seenOf are the visible entries that the chapter says.
func seenOf(l []trace.Entry) []trace.Entry {
	var seen []trace.Entry
	for _, e := range l {
		if e.Kind != enq && e.Kind != arrive {
			seen = append(seen, of(e.Kind, e.Thread, e.Now))
		}
	}
	return seen
}

// writes asks for the lines of entries that have them.
func writes(t *testing.T, l []trace.Entry, want string) {
	t.Helper()
	given := slices.Clone(l)
	got, e := trace.Text(l)
	if got != want || e != api.OK {
		t.Fatalf("Text(%v) = %q, %d, want %q, %d", given, got, e, want, api.OK)
	}
	if !slices.Equal(l, given) {
		t.Fatalf("Text wrote %v over %v", l, given)
	}
}

// hasNoText asks for entries of which one at least has no line.
func hasNoText(t *testing.T, l []trace.Entry) {
	t.Helper()
	given := slices.Clone(l)
	got, e := trace.Text(l)
	if got != "" || e != api.ErrForm {
		t.Fatalf("Text(%v) = %q, %d, want nothing, %d", given, got, e, api.ErrForm)
	}
	if !slices.Equal(l, given) {
		t.Fatalf("Text wrote %v over %v", l, given)
	}
}

// parses asks for the entries of lines.
func parses(t *testing.T, s string, want []trace.Entry) {
	t.Helper()
	got, n, e := trace.Parse(s)
	if !slices.Equal(got, want) || n != len(want) || e != api.OK {
		t.Fatalf("Parse(%q) = %v, %d, %d, want %v, %d, %d", s, got, n, e, want, len(want), api.OK)
	}
}

// isNone asks for lines of which the one of this number is the first that is none.
func isNone(t *testing.T, s string, number int) {
	t.Helper()
	got, n, e := trace.Parse(s)
	if len(got) != 0 || n != number || e != api.ErrForm {
		t.Fatalf("Parse(%q) = %v, %d, %d, want nothing, %d, %d", s, got, n, e, number, api.ErrForm)
	}
}

// sees asks for the visible ones of entries.
func sees(t *testing.T, l []trace.Entry, want ...trace.Entry) {
	t.Helper()
	given := slices.Clone(l)
	if got := trace.Visible(l); !slices.Equal(got, want) {
		t.Fatalf("Visible(%v) = %v, want %v", given, got, want)
	}
	if !slices.Equal(l, given) {
		t.Fatalf("Visible wrote %v over %v", l, given)
	}
}

// holds asks for who has the lock; -1: nobody.
func holds(t *testing.T, l []trace.Entry, want int) {
	t.Helper()
	if want == -1 {
		answersHolder(t, l, 0, false)
	} else {
		answersHolder(t, l, want, true)
	}
}

// answersHolder asks for both that Holder answers.
func answersHolder(t *testing.T, l []trace.Entry, want int, held bool) {
	t.Helper()
	given := slices.Clone(l)
	if got, ok := trace.Holder(l); got != want || ok != held {
		t.Fatalf("Holder(%v) = %d, %v, want %d, %v", given, got, ok, want, held)
	}
	if !slices.Equal(l, given) {
		t.Fatalf("Holder wrote %v over %v", l, given)
	}
}

// wait asks for who waits.
func wait(t *testing.T, l []trace.Entry, want ...int) {
	t.Helper()
	given := slices.Clone(l)
	if got := trace.Waiting(l); !slices.Equal(got, want) {
		t.Fatalf("Waiting(%v) = %v, want %v", given, got, want)
	}
	if !slices.Equal(l, given) {
		t.Fatalf("Waiting wrote %v over %v", l, given)
	}
}

// counts asks for how many entries are of a kind.
func counts(t *testing.T, l []trace.Entry, kind, want int) {
	t.Helper()
	given := slices.Clone(l)
	if got := trace.Count(l, kind); got != want {
		t.Fatalf("Count(%v, %d) = %d, want %d", given, kind, got, want)
	}
	if !slices.Equal(l, given) {
		t.Fatalf("Count wrote %v over %v", l, given)
	}
}

// comesBack asks that Parse of Text is the entries.
func comesBack(t *testing.T, l []trace.Entry) {
	t.Helper()
	s, e := trace.Text(l)
	if e != api.OK {
		t.Fatalf("Text(%v) tells %d, want %d", l, e, api.OK)
	}
	parses(t, s, l)
}

// hasJustThat asks that lines, if they are parsed, are the text of what comes of it.
func hasJustThat(t *testing.T, s string) {
	t.Helper()
	l, n, e := trace.Parse(s)
	if e != api.OK {
		return
	}
	if got, e := trace.Text(l); got != s || e != api.OK || n != len(l) {
		t.Fatalf("Parse(%q) = %v, %d; Text of that = %q, %d, want what was parsed", s, l, n, got, e)
	}
}

// lcg gives numbers that look like any, the same ones each time.
type lcg uint64

func (g *lcg) below(n int) int {
	*g = *g*6364136223846793005 + 1442695040888963407
	return int(uint64(*g)>>33) % n
}

// anyTick is a tick that may be.
func (g *lcg) anyTick() int {
	switch g.below(4) {
	case 0:
		return g.below(12)
	case 1:
		return last - g.below(12)
	case 2:
		return min(1<<g.below(41)+g.below(2), last)
	}
	return g.below(1<<31)<<9 + g.below(1<<9)
}

// anyRights are some entries that have lines.
func (g *lcg) anyRights() []trace.Entry {
	threads := []int{3, 12, 64}[g.below(3)]
	l := make([]trace.Entry, g.below(24))
	for i := range l {
		l[i] = of(call+g.below(8), g.below(threads), g.anyTick())
		l[i].Lead = l[i].Kind == grant && g.below(2) == 0
	}
	return l
}

// anyEntries are some entries, of which some have no lines.
func (g *lcg) anyEntries() []trace.Entry {
	far := []int{math.MinInt64, math.MaxInt64, -1, 64, 1 << 32, -1 << 32, last + 1}
	l := g.anyRights()
	for range g.below(4) {
		e := of(g.below(11)-1, g.below(5)-1, g.below(7)-1)
		e.Lead = g.below(2) == 0
		switch g.below(6) {
		case 0:
			e.Kind = far[g.below(len(far))]
		case 1:
			e.Thread = far[g.below(len(far))]
		case 2:
			e.Now = far[g.below(len(far))]
		}
		l = slices.Insert(l, g.below(len(l)+1), e)
	}
	return l
}

// anyEdit is a text that differs in a byte or two from a given one.
func (g *lcg) anyEdit(s string) string {
	const most = "0123456789 \n\t\r+-_leadgrnt\x00\xff"
	for range 1 + g.below(2) {
		from := g.below(len(s) + 1)
		to := min(from+g.below(2), len(s))
		s = s[:from] + strings.Repeat(most[g.below(len(most)):][:1], g.below(2)) + s[to:]
	}
	return s
}

// wrongEntries are those that have no line; some would have one if a part were
// cut to fewer bits.
func wrongEntries() []trace.Entry {
	far := []int{math.MinInt64, math.MaxInt64, math.MinInt32, math.MaxInt32, 1 << 32, 1<<32 + 1, 1<<32 + 4, -1 << 32, -256, -255, 256, 257, 260}
	var l []trace.Entry
	for _, kind := range append(far, 0, -1, -4, -8, 9, 10, 12, 16, 255) {
		l = append(l, of(kind, 0, 0), of(kind, 63, last), trace.Entry{Kind: kind, Lead: true})
	}
	for kind := call; kind <= refuse; kind++ {
		for _, thread := range append(far, -1, -2, -63, -64, 64, 65, 127, 128, 255, 1<<32+63) {
			l = append(l, of(kind, thread, 0), of(kind, thread, last))
		}
		for _, now := range []int{math.MinInt64, math.MaxInt64, -1, -2, -last, -last - 1, last + 1, last + 2, 2 * last, 1 << 62, last + 1<<62} {
			l = append(l, of(kind, 0, now), of(kind, 63, now))
		}
		if kind != grant {
			l = append(l, trace.Entry{Kind: kind, Lead: true}, trace.Entry{Kind: kind, Thread: 63, Now: last, Lead: true})
		}
	}
	return append(l, leading(64, 0), leading(-1, 0), leading(0, -1), leading(0, last+1))
}

// wrongLines are some that are none, each with its end.
func wrongLines() []string {
	l := []string{"", " ", "  ", "\t", "0", "0 0", "lead", "grant", "grant ", "grant 0", "grant 0 ", "call 0", "call  0",
		// words that are no kinds
		"calls 0 1", "cal 0 1", "Call 0 1", "CALL 0 1", "1 0 1", " 0 1", "lead 0 1", "pick 0 1", "grants 0 1", "enqueue 0 1", "hold 0 1", "callenq 0 1", "call, 0 1", "callcall 0 1",
		"none 0 1", "granted 0 1", "returns 0 1", "time 0 1", "ref 0 1",
		// blanks
		" call 0 1", "call 0 1 ", "call  0 1", "call 0  1", "call 0 1  ", "call0 1", "call 01", "call01", "call\t0 1", "call 0\t1", "call 0 1\t", "call\u00a00 1", "call 0 1\r", "call 0 1\v", "\tcall 0 1",
		"call 0 1\x00", "\x00call 0 1", "call,0,1",
		// numbers
		"call +0 1", "call -0 1", "call 0 +1", "call 0 -1", "call -1 1", "call +1 1", "call 00 1", "call 01 1", "call 0 01", "call 0 00", "call 0 000000000000000000001", "call 064 1",
		"call  1", "call 0 ", "call x 1", "call 0 x", "call 1x 1", "call 0 1x", "call 0x1 1", "call 0 0x1", "call 0 1e3", "call 1.0 1", "call 0 1.", "call 1_0 1", "call 0 1_0", "call 0 1,000",
		"call 64 1", "call 65 1", "call 99 1", "call 100 1", "call 256 1", "call 4294967296 1", "call 18446744073709551616 1", "call 63 1099511627777", "call 0 1099511627778", "call 0 9999999999999",
		"call 0 10995116277760", "call 0 9223372036854775807", "call 0 9223372036854775808", "call 0 18446744073709551616", "call 0 18446744073709551617", "call 0 -9223372036854775808",
		"call 0 -18446744073709551615", "call ٣ 1", "call 0 ٣", "call 0 １", "call 0 ½",
		// lead
		"grant 0 1 Lead", "grant 0 1 LEAD", "grant 0 1 lea", "grant 0 1 leads", "grant 0 1  lead", "grant 0 1 lead ", "grant 0 1lead", "grant 0 1\tlead", "grant 0 1 lead lead", "grant 0 1 lead 0", "grant 0 1 lead x",
		"grant 0 1 0", "grant 0 1 1", "grant 0 1 true", "grant 0 1 x", "grant 0 1 ", "grant 0 lead", "grant 0 lead 1", "grant lead 0 1", "lead grant 0 1", "grant 0 1 grant 0 1", "grant 0 1 call 0 2", "grant 0 1 lead\r",
		"grant 64 1 lead", "grant 0 1099511627777 lead", "grant 00 1 lead", "grant 0 01 lead", "grant -1 1 lead", "grant 0 1 l", "grant 0 1 lead.",
		// no ASCII
		"\xff", "call\xff 0 1", "\xffcall 0 1", "call 0 1\xff", "call \xff 1", "grant 0 1 le\xe4d", "grant 0 1 lead\xff", "call 0 1\xc2\x85", "ｃall 0 1", "cаll 0 1", "call\u20280 1", "call\u30000 1", "\ufeffcall 0 1", "call 0 1\u2028"}
	for _, word := range named {
		l = append(l, word, word+" 0", word+" 0 1 2", word+" 0 1 x", word+" 64 0", word+" 0 1099511627777", strings.ToUpper(word)+" 0 1", word[1:]+" 0 1", word[:len(word)-1]+" 0 1")
		if word != "grant" {
			l = append(l, word+" 0 1 lead", word+" 63 1099511627776 lead")
		}
	}
	for _, long := range []string{strings.Repeat("0", 5000), strings.Repeat("9", 5000), "1" + strings.Repeat("0", 5000), strings.Repeat("0", 5000) + "1"} {
		l = append(l, "call "+long+" 1", "call 1 "+long, "grant 1 "+long+" lead")
	}
	l = append(l, strings.Repeat("call ", 5000), "call"+strings.Repeat(" ", 5000)+"0 1", strings.Repeat("c", 5000)+" 0 1", "call 0 1"+strings.Repeat(" 1", 5000))
	for i := range l {
		l[i] += "\n"
	}
	return l
}

// someLines are lines, among them each kind and the edges.
func someLines() []trace.Entry {
	l := []trace.Entry{leading(0, 0), leading(63, last), leading(3, 10)}
	for kind := call; kind <= refuse; kind++ {
		l = append(l, of(kind, 0, 0), of(kind, 63, last), of(kind, 9, 99), of(kind, 10, 1000))
	}
	return l
}

func TestKindsP8_1(t *testing.T) {
	got := []int{trace.Call, trace.Enq, trace.Arrive, trace.Grant, trace.Timeout, trace.Unlock, trace.Return, trace.Refuse}
	if want := []int{1, 2, 3, 4, 5, 6, 7, 8}; !slices.Equal(got, want) {
		t.Errorf("the kinds are %v, want %v", got, want)
	}
}

// TestExampleP8_1: a Grant that leads, of the thread 3 at the tick 10.
func TestExampleP8_1(t *testing.T) {
	l := []trace.Entry{{Kind: trace.Grant, Thread: 3, Now: 10, Lead: true}}
	writes(t, l, "grant 3 10 lead\n")
	parses(t, "grant 3 10 lead\n", l)
}

func TestEachKindsLineP8_1(t *testing.T) {
	for _, c := range []struct {
		line string
		e    trace.Entry
	}{
		{"call 0 0\n", of(1, 0, 0)}, {"enq 1 2\n", of(2, 1, 2)}, {"arrive 63 1099511627776\n", of(3, 63, 1<<40)}, {"grant 9 10\n", of(4, 9, 10)},
		{"timeout 10 9\n", of(5, 10, 9)}, {"unlock 62 1099511627775\n", of(6, 62, 1<<40-1)}, {"return 0 1099511627776\n", of(7, 0, 1<<40)}, {"refuse 63 0\n", of(8, 63, 0)},
		{"grant 0 0 lead\n", leading(0, 0)}, {"grant 63 1099511627776 lead\n", leading(63, 1<<40)},
	} {
		writes(t, []trace.Entry{c.e}, c.line)
		parses(t, c.line, []trace.Entry{c.e})
	}
	writes(t, []trace.Entry{leading(0, 5), of(call, 1, 5), of(grant, 1, 6)}, "grant 0 5 lead\ncall 1 5\ngrant 1 6\n")
	parses(t, "grant 1 6\ngrant 0 5 lead\ncall 1 5\n", []trace.Entry{of(grant, 1, 6), leading(0, 5), of(call, 1, 5)})
}

// TestAllLinesP8_1 asks for all kinds, threads and some ticks.
func TestAllLinesP8_1(t *testing.T) {
	for kind := call; kind <= refuse; kind++ {
		for thread := range 64 {
			for _, now := range []int{0, 1, 9, 10, 11, 99, 100, 1 << 31, 1<<32 - 1, 1 << 32, 1<<32 + 1, last - 1, last} {
				e := of(kind, thread, now)
				writes(t, []trace.Entry{e}, lineOf(e))
				parses(t, lineOf(e), []trace.Entry{e})
				e.Lead = kind == grant
				writes(t, []trace.Entry{e}, lineOf(e))
				parses(t, lineOf(e), []trace.Entry{e})
			}
		}
	}
}

func TestAnyLinesP8_1(t *testing.T) {
	g := lcg(1)
	for range 3000 {
		l := g.anyRights()
		writes(t, l, linesOf(l))
		parses(t, linesOf(l), l)
	}
}

// TestNoEntriesP8_1: of none nothing is said, and the empty text has none.
func TestNoEntriesP8_1(t *testing.T) {
	for _, none := range [][]trace.Entry{nil, {}} {
		sees(t, none)
		holds(t, none, -1)
		wait(t, none)
		counts(t, none, call, 0)
		counts(t, none, 0, 0)
		writes(t, none, "")
	}
	parses(t, "", nil)
}

// TestLinesOfTwoListsP8_1: the lines of two lists, one behind the other, are
// those of both.
func TestLinesOfTwoListsP8_1(t *testing.T) {
	g := lcg(2)
	for range 2000 {
		front, back := g.anyRights(), g.anyRights()
		both := slices.Concat(front, back)
		a, _ := trace.Text(front)
		b, _ := trace.Text(back)
		writes(t, both, a+b)
		parses(t, a+b, both)
	}
}

func TestManyLinesP8_1(t *testing.T) {
	var l []trace.Entry
	var s strings.Builder
	for i := range 100003 {
		e := of(call+i%8, i%64, i)
		e.Lead = e.Kind == grant && i%3 == 0
		l = append(l, e)
		s.WriteString(lineOf(e))
	}
	writes(t, l, s.String())
	parses(t, s.String(), l)
	isNone(t, s.String()+"x", len(l))
	sees(t, l, seenOf(l)...)
	counts(t, l, call, 12501)
	counts(t, l, grant, 12500)
}

func TestVisibleP8_1(t *testing.T) {
	sees(t, []trace.Entry{of(call, 0, 1), of(enq, 0, 1), of(arrive, 0, 2), leading(0, 3), of(unlock, 0, 4), of(cameBack, 0, 5), of(call, 1, 5), of(timeout, 1, 6), of(call, 2, 6), of(refuse, 2, 6), of(grant, 3, 7)},
		of(call, 0, 1), of(grant, 0, 3), of(unlock, 0, 4), of(cameBack, 0, 5), of(call, 1, 5), of(timeout, 1, 6), of(call, 2, 6), of(refuse, 2, 6), of(grant, 3, 7))
	sees(t, []trace.Entry{of(enq, 0, 0), of(arrive, 63, last)})
	sees(t, []trace.Entry{leading(63, last)}, of(grant, 63, last))
	// What is none of the kinds isn't hidden.
	sees(t, at(0, 1, 9, 2, -2, 3, 1<<32+enq, 4, 256+arrive, 5), at(0, 1, 9, 2, -2, 3, 1<<32+enq, 4, 256+arrive, 5)...)
	sees(t, []trace.Entry{{Kind: call, Lead: true}, {Kind: enq, Lead: true}, {Kind: 9, Thread: -1, Now: -1, Lead: true}}, of(call, 0, 0), of(9, -1, -1))
}

func TestHolderP8_1(t *testing.T) {
	holds(t, at(grant, 0), 0)
	holds(t, at(grant, 63), 63)
	holds(t, []trace.Entry{leading(5, 1)}, 5)
	holds(t, at(grant, 5, unlock, 5), -1)
	holds(t, at(unlock, 5, grant, 5), 5)
	holds(t, at(grant, 5, unlock, 5, grant, 5), 5)
	holds(t, at(grant, 5, grant, 6), 6)
	holds(t, at(grant, 6, grant, 5), 5)
	// Another thread's Unlock stands behind.
	holds(t, at(grant, 5, unlock, 6), 5)
	holds(t, at(grant, 5, unlock, 6, cameBack, 6, unlock, 0), 5)
	holds(t, at(grant, 5, grant, 6, unlock, 5), 6)
	holds(t, at(grant, 5, grant, 6, unlock, 6), 5)
	holds(t, at(grant, 5, grant, 6, unlock, 6, unlock, 5), -1)
	holds(t, at(grant, 5, grant, 6, grant, 5, unlock, 5), 6)
	holds(t, at(grant, 5, grant, 6, unlock, 5, unlock, 6, grant, 7, unlock, 8), 7)
	// Nothing but an Unlock ends it.
	holds(t, at(grant, 5, call, 5, enq, 5, arrive, 5, timeout, 5, cameBack, 5, refuse, 5), 5)
	holds(t, at(call, 5, enq, 5, arrive, 5, timeout, 5, cameBack, 5, refuse, 5, unlock, 5), -1)
	// Ticks don't matter, nor that an entry has no line.
	holds(t, []trace.Entry{of(grant, 5, 9), of(unlock, 5, 0)}, -1)
	holds(t, []trace.Entry{of(grant, 5, 9), of(grant, 6, -4)}, 6)
	holds(t, at(0, 5, 9, 5, 1<<32+grant, 5, 256+grant, 5), -1)
	holds(t, at(grant, 5, 1<<32+unlock, 5, 0, 5), 5)
	answersHolder(t, at(grant, -1, unlock, 1<<32-1), -1, true)
	answersHolder(t, at(grant, math.MinInt64, unlock, 0), math.MinInt64, true)
	answersHolder(t, at(grant, math.MaxInt64, unlock, -1), math.MaxInt64, true)
	answersHolder(t, at(grant, 1<<32, grant, -1, unlock, -1, unlock, 0), 1<<32, true)
}

func TestWaitingP8_1(t *testing.T) {
	wait(t, at(call, 0), 0)
	wait(t, at(call, 63, call, 0), 0, 63)
	wait(t, at(call, 3, enq, 3, arrive, 3), 3)
	for _, ends := range []int{grant, timeout, refuse} {
		wait(t, at(call, 3, ends, 3))
		wait(t, at(ends, 3, call, 3), 3)
		wait(t, at(call, 3, call, 3, ends, 3))
		wait(t, at(call, 3, ends, 3, call, 3), 3)
		wait(t, at(call, 3, ends, 3, call, 3, ends, 3))
		wait(t, at(call, 3, ends, 4), 3)
		wait(t, at(call, 3, call, 4, ends, 3), 4)
		wait(t, at(call, 3, ends, 3, call, 4, call, 3), 3, 4)
		wait(t, at(call, 3, ends, 3, ends, 3))
		wait(t, at(ends, 3))
	}
	wait(t, []trace.Entry{of(call, 3, 0), leading(3, 1)})
	wait(t, at(call, 3, call, 3), 3)
	wait(t, at(call, 3, unlock, 3, cameBack, 3, enq, 3, arrive, 3), 3)
	wait(t, at(enq, 3, arrive, 3, unlock, 3, cameBack, 3))
	// Ticks don't matter, nor that an entry has no line.
	wait(t, []trace.Entry{of(call, 3, 9), of(grant, 3, 0)})
	wait(t, []trace.Entry{of(grant, 3, 9), of(call, 3, -7)}, 3)
	wait(t, at(call, 3, 0, 3, 9, 3, 1<<32+grant, 3, -grant, 3), 3)
	wait(t, at(0, 1, 9, 2, 1<<32+call, 3, 256+call, 4))
	wait(t, at(call, 64, call, math.MaxInt64, call, -1, call, 1<<32, call, math.MinInt64, call, 0, grant, 1<<33), math.MinInt64, -1, 0, 64, 1<<32, math.MaxInt64)
}

// TestWaitingRisesP8_1: who waits rises, whatever the order of the Calls.
func TestWaitingRisesP8_1(t *testing.T) {
	var all []int
	for thread := range 64 {
		all = append(all, thread)
	}
	for step := 1; step < 64; step += 2 {
		var l []trace.Entry
		for i := range 64 {
			l = append(l, of(call, i*step%64, i))
		}
		wait(t, l, all...)
		wait(t, append(l, of(grant, 0, 64), of(timeout, 63, 64), of(refuse, 31, 64)), append(slices.Clone(all[1:31]), all[32:63]...)...)
	}
	for _, order := range [][]int{{0, 1, 2}, {0, 2, 1}, {1, 0, 2}, {1, 2, 0}, {2, 0, 1}, {2, 1, 0}} {
		wait(t, at(call, order[0], call, order[1], call, order[2]), 0, 1, 2)
	}
}

func TestCountP8_1(t *testing.T) {
	l := []trace.Entry{of(call, 0, 0), of(call, 1, 1), of(enq, 0, 1), leading(0, 2), of(grant, 1, 3), of(grant, 63, last), of(unlock, 0, 4), of(9, 0, 0), of(9, 1, 1), of(0, 0, 0), of(-3, 0, 0), of(1<<32+1, 0, 0)}
	for kind, want := range map[int]int{call: 2, enq: 1, arrive: 0, grant: 3, timeout: 0, unlock: 1, cameBack: 0, refuse: 0, 0: 1, 9: 2, -3: 1, 1<<32 + 1: 1, -1: 0, 10: 0, 1<<32 + 4: 0, math.MinInt64: 0, math.MaxInt64: 0} {
		counts(t, l, kind, want)
	}
	for kind := call; kind <= refuse; kind++ {
		one := at(kind, 0)
		for asked := -1; asked <= 10; asked++ {
			if asked == kind {
				counts(t, one, asked, 1)
				counts(t, slices.Repeat(one, 300), asked, 300)
			} else {
				counts(t, one, asked, 0)
			}
		}
	}
}

// TestAnyEntriesP8_1 asks all of any entries, and of their visible ones.
func TestAnyEntriesP8_1(t *testing.T) {
	g := lcg(3)
	for range 4000 {
		l := g.anyEntries()
		seen := seenOf(l)
		sees(t, l, seen...)
		sees(t, seen, seen...)
		for _, l := range [][]trace.Entry{l, seen} {
			holder, held := holderOf(l)
			answersHolder(t, l, holder, held)
			wait(t, l, waitersOf(l)...)
			for kind := -1; kind <= 10; kind++ {
				others := func(e trace.Entry) bool { return e.Kind != kind }
				counts(t, l, kind, len(slices.DeleteFunc(slices.Clone(l), others)))
			}
		}
	}
}

// TestVisibleOnesTellTheSameP8_1: who has the lock, who waits, and how many are
// of what is seen, is told by the visible entries too.
func TestVisibleOnesTellTheSameP8_1(t *testing.T) {
	g := lcg(4)
	for range 1000 {
		l := g.anyEntries()
		seen := trace.Visible(l)
		holder, held := trace.Holder(l)
		answersHolder(t, seen, holder, held)
		wait(t, seen, trace.Waiting(l)...)
		for _, kind := range []int{call, grant, timeout, unlock, cameBack, refuse, 0, 9} {
			counts(t, seen, kind, trace.Count(l, kind))
		}
		counts(t, seen, enq, 0)
		counts(t, seen, arrive, 0)
	}
}

func TestWrongEntriesP8_1(t *testing.T) {
	good := someLines()
	for i, e := range wrongEntries() {
		hasNoText(t, []trace.Entry{e})
		hasNoText(t, slices.Insert(slices.Clone(good), i%(len(good)+1), e))
		hasNoText(t, append(slices.Clone(good), e))
		hasNoText(t, append([]trace.Entry{e}, good...))
	}
	hasNoText(t, wrongEntries())
	for kind := -2; kind <= 11; kind++ {
		for thread := -3; thread <= 70; thread++ {
			for _, now := range []int{-2, -1, 0, 1, 1 << 32, last - 1, last, last + 1, last + 2} {
				for _, lead := range []bool{false, true} {
					e := trace.Entry{Kind: kind, Thread: thread, Now: now, Lead: lead}
					if has(e) {
						writes(t, []trace.Entry{e}, lineOf(e))
					} else {
						hasNoText(t, []trace.Entry{e})
					}
				}
			}
		}
	}
}

func TestAnyWrongEntriesP8_1(t *testing.T) {
	g := lcg(5)
	for range 3000 {
		l := g.anyEntries()
		if slices.ContainsFunc(l, func(e trace.Entry) bool { return !has(e) }) {
			hasNoText(t, l)
		} else {
			writes(t, l, linesOf(l))
		}
	}
}

func TestWrongLinesP8_1(t *testing.T) {
	good := linesOf(someLines())
	n := strings.Count(good, "\n")
	for _, line := range wrongLines() {
		isNone(t, line, 0)
		isNone(t, "call 0 1\n"+line, 1)
		isNone(t, line+good, 0)
		isNone(t, good+line, n)
		isNone(t, good+line+good, n)
		isNone(t, strings.TrimSuffix("call 0 1\n"+line, "\n")+" \n", 1)
	}
}

// TestLinesWithoutEndsP8_1: a line without its end is none.
func TestLinesWithoutEndsP8_1(t *testing.T) {
	all := someLines()
	for i, e := range all {
		cut := strings.TrimSuffix(lineOf(e), "\n")
		isNone(t, cut, 0)
		isNone(t, linesOf(all[:i])+cut, i)
		isNone(t, cut+lineOf(e), 0)
		isNone(t, lineOf(e)+cut, 1)
		isNone(t, lineOf(e)+"\n", 1)
		isNone(t, "\n"+lineOf(e), 0)
		isNone(t, cut+"\r\n", 0)
		isNone(t, cut+"\r", 0)
	}
	for end := range "grant 63 1099511627776 lead\n" {
		if end > 0 {
			isNone(t, "call 0 0\n"+"grant 63 1099511627776 lead\n"[:end], 1)
		}
	}
}

// TestFirstWrongLineP8_1 lays several that are none among lines.
func TestFirstWrongLineP8_1(t *testing.T) {
	bad := []string{"\n", "calls 0 1\n", "grant 0 1 Lead\n", "call 64 0\n", "call 0 01\n"}
	good := strings.SplitAfter(strings.TrimSuffix(linesOf(someLines()), "\n"), "\n")
	good[len(good)-1] += "\n"
	for place := range len(good) + 1 {
		l := slices.Insert(slices.Clone(good), place, bad[place%len(bad)])
		isNone(t, strings.Join(l, ""), place)
		isNone(t, strings.Join(append(l, bad...), ""), place)
		isNone(t, strings.Join(slices.Insert(l, place+1, bad[(place+1)%len(bad)]), ""), place)
		isNone(t, strings.Join(l, "")+"call 0 1", place)
	}
	isNone(t, strings.Join(bad, ""), 0)
}

// asSaid asks for what the chapter says of a text.
func asSaid(t *testing.T, s string) {
	t.Helper()
	if l, n, ok := entriesOf(s); ok {
		parses(t, s, l)
	} else {
		isNone(t, s, n)
	}
}

// TestChangedLinesP8_1 asks for lines in which any byte is changed, put in or
// left out.
func TestChangedLinesP8_1(t *testing.T) {
	for _, s := range []string{"call 0 1\n", "grant 63 10 lead\n", "enq 5 1099511627776\n", "timeout 9 0\nunlock 9 0\n"} {
		for i := range len(s) + 1 {
			for x := range 256 {
				asSaid(t, s[:i]+string([]byte{byte(x)})+s[i:])
				if i < len(s) {
					asSaid(t, s[:i]+string([]byte{byte(x)})+s[i+1:])
				}
			}
			if i < len(s) {
				asSaid(t, s[:i]+s[i+1:])
			}
		}
	}
}

func TestAnyTextsP8_1(t *testing.T) {
	g := lcg(6)
	for range 20000 {
		s := linesOf(g.anyRights())
		asSaid(t, g.anyEdit(s))
	}
}

// TestAnswersAreTheAskersP8_1: what is done to entries that were handed in, or
// to an answer, changes no other answer.
func TestAnswersAreTheAskersP8_1(t *testing.T) {
	l := []trace.Entry{of(call, 1, 0), of(call, 0, 0), leading(5, 1), of(cameBack, 7, 2)}
	const lines = "call 1 0\ncall 0 0\ngrant 5 1 lead\nreturn 7 2\n"
	want := slices.Clone(l)
	seen, again := trace.Visible(l), trace.Visible(l)
	waiting, waitingAgain := trace.Waiting(l), trace.Waiting(l)
	text, _ := trace.Text(l)
	clear(l)
	clear(seen)
	clear(waiting)
	_ = append(seen, of(enq, 9, 9))
	_ = append(waiting, 9)
	if !slices.Equal(again, []trace.Entry{of(call, 1, 0), of(call, 0, 0), of(grant, 5, 1), of(cameBack, 7, 2)}) {
		t.Errorf("visible entries are %v as the entries and another answer were changed", again)
	}
	if !slices.Equal(waitingAgain, []int{0, 1}) || text != lines {
		t.Errorf("who waits is %v, and the text %q, as the entries and another answer were changed", waitingAgain, text)
	}
	parsed, _, _ := trace.Parse(lines)
	parsedAgain, _, _ := trace.Parse(lines)
	clear(parsed)
	_ = append(parsed, of(enq, 9, 9))
	if !slices.Equal(parsedAgain, want) {
		t.Errorf("parsed entries are %v as another answer was changed", parsedAgain)
	}
}

// TestBehindTheEndP8_1: what lies in the same memory behind the entries that
// are handed in is neither asked nor written.
func TestBehindTheEndP8_1(t *testing.T) {
	l := []trace.Entry{of(enq, 0, 0), of(call, 1, 0), leading(5, 1), of(unlock, 5, 1), of(grant, 1, 2), of(9, 9, 9)}
	whole := slices.Clone(l)
	sees(t, l[:3], of(call, 1, 0), of(grant, 5, 1))
	holds(t, l[:3], 5)
	wait(t, l[:3], 1)
	counts(t, l[:3], grant, 1)
	writes(t, l[:3], "enq 0 0\ncall 1 0\ngrant 5 1 lead\n")
	if !slices.Equal(l, whole) {
		t.Errorf("entries behind the end are %v, want %v", l, whole)
	}
}

// TestNothingIsKeptP8_1: an answer doesn't hang on what was asked ahead of it.
func TestNothingIsKeptP8_1(t *testing.T) {
	for range 3 {
		isNone(t, "call 0 1\ncall 0", 1)
		hasNoText(t, at(call, 1, 9, 1))
		parses(t, "call 0 1\n", []trace.Entry{of(call, 0, 1)})
		writes(t, at(call, 1), "call 1 0\n")
		wait(t, at(call, 1), 1)
		wait(t, at(grant, 2))
		holds(t, at(unlock, 3), -1)
		holds(t, at(grant, 3), 3)
	}
}

func TestParseOfTextP8_2(t *testing.T) {
	comesBack(t, nil)
	comesBack(t, someLines())
	for kind := call; kind <= refuse; kind++ {
		for thread := range 64 {
			for digit := range 41 {
				comesBack(t, []trace.Entry{of(kind, thread, 1<<digit), of(kind, 63-thread, 1<<digit-1)})
			}
		}
	}
	for thread := range 64 {
		comesBack(t, []trace.Entry{leading(thread, thread), of(grant, thread, thread), leading(thread, last)})
	}
	g := lcg(7)
	for range 3000 {
		comesBack(t, g.anyRights())
	}
}

// TestParsedHasJustThatTextP8_2: no text but that of entries is parsed.
func TestParsedHasJustThatTextP8_2(t *testing.T) {
	hasJustThat(t, "")
	for _, line := range wrongLines() {
		hasJustThat(t, line)
		hasJustThat(t, strings.TrimSuffix(line, "\n"))
		hasJustThat(t, lineOf(leading(3, 10))+line)
	}
	g := lcg(8)
	for range 20000 {
		s := linesOf(g.anyRights())
		hasJustThat(t, s)
		hasJustThat(t, g.anyEdit(s))
	}
}
