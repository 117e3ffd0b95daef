package event_test

import (
	"bytes"
	"math"
	"slices"
	"testing"

	"weighlock/api"
	"weighlock/event"
)

// The kinds, by the numbers that the chapter names.
const (
	pick = 1
	tick = 2
	call = 3
	end  = 4
)

// of is an event, by its three parts.
func of(kind, thread, wait int) event.Event {
	return event.Event{Kind: kind, Thread: thread, Wait: wait}
}

// decoded is what the chapter says of bytes, in plain words.
func decoded(b []byte) []event.Event {
	var l []event.Event
	for i := 0; i < len(b); i++ {
		x := int(b[i])
		k, t := x%8, x/8
		switch {
		case k <= 3:
			l = append(l, of(pick, t, 0))
		case k == 4:
			l = append(l, of(tick, 0, 0))
		case k == 5:
			l = append(l, of(call, t, -1))
		case k == 6 && i+1 < len(b):
			i++
			l = append(l, of(call, t, int(b[i])))
		case k == 6:
			l = append(l, of(call, t, 0))
		case k == 7:
			l = append(l, of(end, t, 0))
		}
	}
	return l
}

// encoded is the bytes that the chapter says of events that are right.
func encoded(l []event.Event) []byte {
	var b []byte
	for _, e := range l {
		switch {
		case e.Kind == pick:
			b = append(b, byte(8*e.Thread))
		case e.Kind == tick:
			b = append(b, 4)
		case e.Kind == call && e.Wait == -1:
			b = append(b, byte(8*e.Thread+5))
		case e.Kind == call:
			b = append(b, byte(8*e.Thread+6), byte(e.Wait))
		case e.Kind == end:
			b = append(b, byte(8*e.Thread+7))
		}
	}
	return b
}

// right is what the chapter says of an event that some bytes have.
func right(e event.Event) bool {
	in := 0 <= e.Thread && e.Thread <= 31
	switch e.Kind {
	case pick, end:
		return in && e.Wait == 0
	case tick:
		return e.Thread == 0 && e.Wait == 0
	case call:
		return in && -1 <= e.Wait && e.Wait <= 255
	}
	return false
}

// rights are all events that are right.
func rights() []event.Event {
	l := []event.Event{of(tick, 0, 0)}
	for t := range 32 {
		l = append(l, of(pick, t, 0), of(end, t, 0))
		for w := -1; w <= 255; w++ {
			l = append(l, of(call, t, w))
		}
	}
	return l
}

// wrongs are events that aren't right; some of them would be if a part were
// cut to fewer bits.
func wrongs() []event.Event {
	far := []int{math.MinInt64, math.MaxInt64, math.MinInt32, math.MaxInt32, 1 << 32, 1<<32 + 1, -1 << 32, 1<<16 + 1, -256, -257, -1 << 8}
	var l []event.Event
	for _, kind := range append(far, 0, -1, -2, -3, -4, 5, 6, 7, 8, 9, 255, 256, 256+pick, 256+call, 1<<32+tick, 1<<32+end) {
		l = append(l, of(kind, 0, 0), of(kind, 31, 0), of(kind, 0, -1), of(kind, 5, 7))
	}
	for _, thread := range append(far, -1, -2, -32, 32, 33, 63, 64, 255, 256, 1<<32+31) {
		for kind := pick; kind <= end; kind++ {
			l = append(l, of(kind, thread, 0), of(kind, thread, -1), of(kind, thread, 255))
		}
	}
	for _, wait := range append(far, -1, 1, 2, 7, 255, 256) {
		for _, thread := range []int{0, 1, 31} {
			l = append(l, of(pick, thread, wait), of(tick, thread, wait), of(end, thread, wait))
		}
	}
	for _, wait := range append(far, -2, -3, -255, 256, 257, 511, 512, 1<<32-1) {
		l = append(l, of(call, 0, wait), of(call, 1, wait), of(call, 31, wait))
	}
	for thread := 1; thread <= 31; thread++ {
		l = append(l, of(tick, thread, 0))
	}
	return l
}

// decodes asks for the events of bytes, each of which is right.
func decodes(t *testing.T, b []byte, want ...event.Event) {
	t.Helper()
	given := bytes.Clone(b)
	got := event.Decode(b)
	if !slices.Equal(got, want) {
		t.Fatalf("Decode(%v) = %v, want %v", given, got, want)
	}
	for _, e := range got {
		if !right(e) || !event.Right(e) {
			t.Fatalf("Decode(%v) has %v: Right of it is %v, want true", given, e, event.Right(e))
		}
	}
	if !bytes.Equal(b, given) {
		t.Fatalf("Decode wrote %v over %v", b, given)
	}
}

// encodes asks for the bytes of events that are right.
func encodes(t *testing.T, l []event.Event, want ...byte) {
	t.Helper()
	given := slices.Clone(l)
	b, n, e := event.Encode(l)
	if !bytes.Equal(b, want) || n != len(given) || e != api.OK {
		t.Fatalf("Encode(%v) = %v, %d, %d, want %v, %d, %d", given, b, n, e, want, len(given), api.OK)
	}
	if !slices.Equal(l, given) {
		t.Fatalf("Encode wrote %v over %v", l, given)
	}
}

// refuses asks for events of which the one at a place is the first that isn't right.
func refuses(t *testing.T, l []event.Event, place int) {
	t.Helper()
	given := slices.Clone(l)
	b, n, e := event.Encode(l)
	if len(b) != 0 || n != place || e != api.ErrForm {
		t.Fatalf("Encode(%v) = %v, %d, %d, want nothing, %d, %d", given, b, n, e, place, api.ErrForm)
	}
	if !slices.Equal(l, given) {
		t.Fatalf("Encode wrote %v over %v", l, given)
	}
}

// comesBack asks that Decode of Encode is the events.
func comesBack(t *testing.T, l []event.Event) {
	t.Helper()
	b, _, e := event.Encode(l)
	if e != api.OK {
		t.Fatalf("Encode(%v) tells %d, want %d", l, e, api.OK)
	}
	if got := event.Decode(b); !slices.Equal(got, l) {
		t.Fatalf("Decode(%v) = %v, want %v, of which these are the bytes", b, got, l)
	}
}

// lcg gives numbers that look like any, the same ones each time.
type lcg uint64

func (g *lcg) below(n int) int {
	*g = *g*6364136223846793005 + 1442695040888963407
	return int(uint64(*g)>>33) % n
}

// anyBytes are some bytes, mostly of few values, so that a k of 6 stands
// beside another one.
func (g *lcg) anyBytes() []byte {
	b := make([]byte, g.below(40))
	most := []int{256, 8, 16}[g.below(3)]
	for i := range b {
		b[i] = byte(g.below(most))
	}
	return b
}

// anyRights are some events that are right.
func (g *lcg) anyRights(all []event.Event) []event.Event {
	l := make([]event.Event, g.below(40))
	for i := range l {
		switch g.below(4) {
		case 0:
			l[i] = of(pick, g.below(32), 0)
		case 1:
			l[i] = of(end, g.below(32), 0)
		default:
			l[i] = all[g.below(len(all))]
		}
	}
	return l
}

func TestKindsP7_1(t *testing.T) {
	got := []int{event.Pick, event.Tick, event.Call, event.End}
	if want := []int{pick, tick, call, end}; !slices.Equal(got, want) {
		t.Errorf("Pick, Tick, Call and End are %v, want %v", got, want)
	}
}

// TestExampleP7_1: the bytes 4, 14, 7 are a Tick, and a Call of the thread 1
// with the Wait 7.
func TestExampleP7_1(t *testing.T) {
	l := []event.Event{of(tick, 0, 0), of(call, 1, 7)}
	decodes(t, []byte{4, 14, 7}, l...)
	encodes(t, l, 4, 14, 7)
}

func TestDecodeEachKP7_1(t *testing.T) {
	for thread := range 32 {
		x := byte(8 * thread)
		for k := byte(0); k <= 3; k++ {
			decodes(t, []byte{x + k}, of(pick, thread, 0))
		}
		decodes(t, []byte{x + 4}, of(tick, 0, 0))
		decodes(t, []byte{x + 5}, of(call, thread, -1))
		decodes(t, []byte{x + 6}, of(call, thread, 0))
		decodes(t, []byte{x + 6, 9}, of(call, thread, 9))
		decodes(t, []byte{x + 7}, of(end, thread, 0))
	}
}

func TestDecodeEdgesP7_1(t *testing.T) {
	decodes(t, nil)
	decodes(t, []byte{})
	// k 6 as the last byte, and with one byte behind it.
	decodes(t, []byte{6}, of(call, 0, 0))
	decodes(t, []byte{254}, of(call, 31, 0))
	decodes(t, []byte{6, 0}, of(call, 0, 0))
	decodes(t, []byte{6, 255}, of(call, 0, 255))
	decodes(t, []byte{254, 255}, of(call, 31, 255))
	// What is taken as a Wait is no event of its own, even with k 6.
	decodes(t, []byte{6, 6}, of(call, 0, 6))
	decodes(t, []byte{6, 6, 6}, of(call, 0, 6), of(call, 0, 0))
	decodes(t, []byte{14, 22, 30, 38}, of(call, 1, 22), of(call, 3, 38))
	decodes(t, []byte{6, 254, 254}, of(call, 0, 254), of(call, 31, 0))
	// k 5 takes no byte behind it.
	decodes(t, []byte{5, 255}, of(call, 0, -1), of(end, 31, 0))
	decodes(t, []byte{253, 4}, of(call, 31, -1), of(tick, 0, 0))
	decodes(t, []byte{0, 1, 2, 3}, of(pick, 0, 0), of(pick, 0, 0), of(pick, 0, 0), of(pick, 0, 0))
	decodes(t, []byte{251, 252, 255}, of(pick, 31, 0), of(tick, 0, 0), of(end, 31, 0))
}

// TestDecodePairsP7_1 asks for all bytes, and all pairs of them.
func TestDecodePairsP7_1(t *testing.T) {
	for x := range 256 {
		decodes(t, []byte{byte(x)}, decoded([]byte{byte(x)})...)
		for y := range 256 {
			b := []byte{byte(x), byte(y)}
			decodes(t, b, decoded(b)...)
		}
	}
}

func TestDecodeAnyP7_1(t *testing.T) {
	g := lcg(1)
	for range 3000 {
		b := g.anyBytes()
		decodes(t, b, decoded(b)...)
	}
}

func TestDecodeManyP7_1(t *testing.T) {
	b := bytes.Repeat([]byte{4, 14, 7, 200}, 30000)
	decodes(t, b, decoded(b)...)
	b = bytes.Repeat([]byte{6}, 100001)
	decodes(t, b, decoded(b)...)
}

func TestEncodeP7_1(t *testing.T) {
	encodes(t, nil)
	encodes(t, []event.Event{})
	for thread := range 32 {
		x := byte(8 * thread)
		encodes(t, []event.Event{of(pick, thread, 0)}, x)
		encodes(t, []event.Event{of(end, thread, 0)}, x+7)
		encodes(t, []event.Event{of(call, thread, -1)}, x+5)
		encodes(t, []event.Event{of(call, thread, 0)}, x+6, 0)
		encodes(t, []event.Event{of(call, thread, 255)}, x+6, 255)
	}
	encodes(t, []event.Event{of(tick, 0, 0)}, 4)
	encodes(t, []event.Event{of(end, 31, 0), of(tick, 0, 0), of(tick, 0, 0), of(call, 31, 0), of(pick, 31, 0), of(call, 2, -1), of(call, 2, 1)},
		255, 4, 4, 254, 0, 248, 21, 22, 1)
}

func TestEncodeAnyP7_1(t *testing.T) {
	all := rights()
	encodes(t, all, encoded(all)...)
	for _, e := range all {
		encodes(t, []event.Event{e}, encoded([]event.Event{e})...)
	}
	g := lcg(2)
	for range 3000 {
		l := g.anyRights(all)
		encodes(t, l, encoded(l)...)
	}
}

// TestRightP7_1 asks for all events near those that are right.
func TestRightP7_1(t *testing.T) {
	for kind := -2; kind <= 7; kind++ {
		for thread := -3; thread <= 40; thread++ {
			for wait := -4; wait <= 260; wait++ {
				e := of(kind, thread, wait)
				if got := event.Right(e); got != right(e) {
					t.Fatalf("Right(%v) = %v, want %v", e, got, !got)
				}
			}
		}
	}
}

// TestRightOfNamedP7_1 asks for events that the test names, so that it doesn't
// hang on the model.
func TestRightOfNamedP7_1(t *testing.T) {
	for _, e := range []event.Event{of(1, 0, 0), of(1, 31, 0), of(2, 0, 0), of(3, 0, -1), of(3, 0, 0), of(3, 31, 255), of(3, 31, -1), of(4, 0, 0), of(4, 31, 0)} {
		if !event.Right(e) {
			t.Errorf("Right(%v) = false", e)
		}
	}
	for _, e := range []event.Event{{}, of(0, 1, 0), of(-1, 0, 0), of(5, 0, 0), of(1, -1, 0), of(1, 32, 0), of(3, -1, 0), of(3, 32, 0), of(4, -1, 0), of(4, 32, 0), of(2, 1, 0), of(2, -1, 0), of(1, 0, 1), of(1, 0, -1), of(2, 0, 1), of(2, 0, -1), of(4, 0, 1), of(4, 0, -1), of(3, 0, -2), of(3, 0, 256)} {
		if event.Right(e) {
			t.Errorf("Right(%v) = true", e)
		}
	}
}

func TestWrongEventsP7_1(t *testing.T) {
	for _, e := range wrongs() {
		if right(e) {
			continue // a Tick of the thread 0, a Wait that may be
		}
		if event.Right(e) {
			t.Fatalf("Right(%v) = true, want false", e)
		}
		refuses(t, []event.Event{e}, 0)
		refuses(t, []event.Event{of(tick, 0, 0), of(call, 3, 9), e, of(pick, 0, 0)}, 2)
	}
}

// TestFirstWrongEventP7_1 lays several that aren't right among others.
func TestFirstWrongEventP7_1(t *testing.T) {
	bad := []event.Event{of(5, 0, 0), of(pick, 32, 0), of(call, 0, 256), {}, of(tick, 1, 0)}
	good := rights()[:40]
	for place := range len(good) + 1 {
		l := slices.Insert(slices.Clone(good), place, bad[place%len(bad)])
		refuses(t, l, place)
		refuses(t, append(l, bad...), place)
		refuses(t, slices.Insert(l, place+1, bad[(place+1)%len(bad)]), place)
	}
	refuses(t, bad, 0)
}

func TestAnyEventsP7_1(t *testing.T) {
	all, wrong := rights(), slices.DeleteFunc(wrongs(), right)
	g := lcg(3)
	for range 3000 {
		l := g.anyRights(all)
		for range g.below(3) {
			l = slices.Insert(l, g.below(len(l)+1), wrong[g.below(len(wrong))])
		}
		first := slices.IndexFunc(l, func(e event.Event) bool { return !right(e) })
		if first >= 0 {
			refuses(t, l, first)
		} else {
			encodes(t, l, encoded(l)...)
		}
	}
}

// TestAnswersAreTheAskersP7_1: what is done to bytes or events that were handed
// in, or to an answer, changes no other answer.
func TestAnswersAreTheAskersP7_1(t *testing.T) {
	b := []byte{4, 14, 7, 255}
	l := []event.Event{of(tick, 0, 0), of(call, 1, 7), of(end, 31, 0)}
	got, other := event.Decode(b), event.Decode(b)
	clear(b)
	clear(got)
	_ = append(got, of(pick, 1, 0))
	if !slices.Equal(other, l) {
		t.Errorf("decoded events are %v as the bytes and another answer were changed, want %v", other, l)
	}
	back, _, _ := event.Encode(l)
	again, _, _ := event.Encode(l)
	clear(l)
	clear(back)
	_ = append(back, 99)
	if !bytes.Equal(again, []byte{4, 14, 7, 255}) {
		t.Errorf("encoded bytes are %v as the events and another answer were changed", again)
	}
}

// TestBehindTheEndP7_1: what lies in the same memory behind the bytes or
// events that are handed in is neither asked nor written.
func TestBehindTheEndP7_1(t *testing.T) {
	b := []byte{4, 6, 200, 13}
	decodes(t, b[:2], of(tick, 0, 0), of(call, 0, 0))
	if !bytes.Equal(b, []byte{4, 6, 200, 13}) {
		t.Errorf("bytes behind the end are %v", b)
	}
	l := []event.Event{of(tick, 0, 0), of(pick, 3, 0), of(9, 9, 9)}
	encodes(t, l[:1], 4)
	encodes(t, l[:2], 4, 24)
	if !slices.Equal(l, []event.Event{of(tick, 0, 0), of(pick, 3, 0), of(9, 9, 9)}) {
		t.Errorf("events behind the end are %v", l)
	}
}

func TestDecodeOfEncodeP7_2(t *testing.T) {
	comesBack(t, nil)
	all := rights()
	comesBack(t, all)
	for _, e := range all {
		comesBack(t, []event.Event{e})
		comesBack(t, []event.Event{e, e})
		comesBack(t, []event.Event{of(call, 6, 0), e, of(call, 0, 6), of(call, 0, -1)})
	}
}

func TestDecodeOfEncodeOfAnyP7_2(t *testing.T) {
	all := rights()
	g := lcg(4)
	for range 3000 {
		comesBack(t, g.anyRights(all))
		comesBack(t, event.Decode(g.anyBytes()))
	}
}

// TestBytesBehindEncodedOnesP7_2: they are decoded behind them, as if they
// stood alone.
func TestBytesBehindEncodedOnesP7_2(t *testing.T) {
	all := rights()
	behind := func(l []event.Event, b []byte) {
		t.Helper()
		front, _, _ := event.Encode(l)
		want := append(slices.Clone(l), decoded(b)...)
		if got := event.Decode(append(front, b...)); !slices.Equal(got, want) {
			t.Fatalf("Decode of the bytes of %v and of %v behind them = %v, want %v", l, b, got, want)
		}
	}
	for _, e := range all {
		for x := range 256 {
			behind([]event.Event{e}, []byte{byte(x)})
		}
		behind([]event.Event{e}, []byte{14, 7, 4})
	}
	g := lcg(5)
	for range 3000 {
		behind(g.anyRights(all), g.anyBytes())
	}
}
