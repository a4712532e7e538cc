package marl_test

import (
	"math/rand"
	"slices"
	"strconv"
	"testing"

	"marl/api"
	"marl/marl"
)

// model is a volume told another way: every cell that ever was has a number,
// and who has it is counted.
type model struct {
	pool   int
	made   int
	owners map[int]int
	now    []held
	names  []string
	snaps  map[string][]held
}

// held: a text and its cell's number, 0 if it is empty.
type held struct {
	text string
	cell int
}

func (m *model) count(l []held, by int) {
	for _, h := range l {
		if h.cell == 0 {
			continue
		}
		m.owners[h.cell] += by
		if m.owners[h.cell] == 0 {
			delete(m.owners, h.cell)
		}
	}
}

func (m *model) write(block int, text string) api.Code {
	if block < 0 || block >= len(m.now) {
		return api.ErrArg
	}
	if len(text) > 6 {
		return api.ErrText
	}
	old := m.now[block]
	if old.text == text {
		return 0
	}
	if text == "" {
		m.count([]held{old}, -1)
		m.now[block] = held{}
		return 0
	}
	freed := 0
	if old.cell != 0 && m.owners[old.cell] == 1 {
		freed = 1
	}
	if len(m.owners)-freed+1 > m.pool {
		return api.ErrFull
	}
	m.count([]held{old}, -1)
	m.made++
	m.now[block] = held{text, m.made}
	m.count(m.now[block:block+1], 1)
	return 0
}

func (m *model) snap(name string) api.Code {
	if name == "" {
		return api.ErrName
	}
	if slices.Contains(m.names, name) {
		return api.ErrTwice
	}
	if len(m.names) == 6 {
		return api.ErrMany
	}
	m.names = append(m.names, name)
	m.snaps[name] = slices.Clone(m.now)
	m.count(m.now, 1)
	return 0
}

func (m *model) drop(name string) api.Code {
	if name == "" {
		return api.ErrName
	}
	if !slices.Contains(m.names, name) {
		return api.ErrNone
	}
	m.count(m.snaps[name], -1)
	m.names = slices.DeleteFunc(m.names, func(n string) bool { return n == name })
	delete(m.snaps, name)
	return 0
}

func (m *model) send(from, to string) (string, api.Code) {
	if to == "" {
		return "", api.ErrName
	}
	older, newer := slices.Index(m.names, from), slices.Index(m.names, to)
	if newer < 0 || from != "" && older < 0 {
		return "", api.ErrNone
	}
	if from != "" && older >= newer {
		return "", api.ErrOrder
	}
	base, head := make([]held, len(m.now)), noBase
	if from != "" {
		base, head = m.snaps[from], "\x01"+sumText(told(m.snaps[from], nil))
	}
	blocks := string([]byte{byte(len(m.now))})
	return summed("M1" + blocks + head + told(m.snaps[to], base) + "\x00"), 0
}

// told: the length and text of each block; with a base only where they are
// other than there, and the block's number ahead of them.
func told(l, base []held) string {
	s := ""
	for block, h := range l {
		if base != nil && base[block].text == h.text {
			continue
		}
		if base != nil {
			s += string([]byte{byte(block + 1)})
		}
		s += string([]byte{byte(len(h.text))}) + h.text
	}
	return s
}

func (m *model) receive(stream, base, name string) (api.Code, int) {
	if name == "" {
		return api.ErrName, 0
	}
	older := make([]held, len(m.now))
	if base != "" {
		older = m.snaps[base]
	}
	if older == nil {
		return api.ErrNone, 0
	}
	if slices.Contains(m.names, name) {
		return api.ErrTwice, 0
	}
	if len(m.names) == 6 {
		return api.ErrMany, 0
	}
	got, at, ok := judge(stream, len(m.now))
	if !ok {
		return api.ErrForm, at
	}
	if got.sum != sumText(stream[:len(stream)-4]) {
		return api.ErrSum, 0
	}
	if got.hasBase != (base != "") || got.hasBase && got.base != sumText(told(older, nil)) {
		return api.ErrBase, 0
	}
	return m.add(name, older, got.texts), 0
}

// add: a snapshot as the older one, but for some texts.
func (m *model) add(name string, older []held, texts map[int]string) api.Code {
	next, fresh := slices.Clone(older), 0
	for block, text := range texts {
		if text == older[block].text {
			continue
		}
		next[block] = held{}
		if text != "" {
			fresh++
			next[block] = held{text, m.made + fresh}
		}
	}
	if len(m.owners)+fresh > m.pool {
		return api.ErrFull
	}
	m.made += fresh
	m.names = append(m.names, name)
	m.snaps[name] = next
	m.count(next, 1)
	return 0
}

func (m *model) roll(name string) api.Code {
	if name == "" {
		return api.ErrName
	}
	if !slices.Contains(m.names, name) {
		return api.ErrNone
	}
	m.count(m.snaps[name], 1)
	m.count(m.now, -1)
	m.now = slices.Clone(m.snaps[name])
	return 0
}

func (m *model) look() state {
	s := state{names: m.names, used: len(m.owners)}
	for _, l := range append([][]held{m.now}, m.inOrder()...) {
		var texts []string
		for _, h := range l {
			texts = append(texts, h.text)
		}
		s.texts = append(s.texts, texts)
	}
	return s
}

func (m *model) inOrder() [][]held {
	var l [][]held
	for _, name := range m.names {
		l = append(l, m.snaps[name])
	}
	return l
}

// twins: a volume and its model.
type twins struct {
	t       *testing.T
	v       *marl.Volume
	m       *model
	senders []*begun
}

// begun: a sender, and what it has yet to give.
type begun struct {
	sender *marl.Sender
	left   string
}

func bear(t *testing.T, blocks, pool int) *twins {
	t.Helper()
	m := &model{pool: pool, owners: map[int]int{}, now: make([]held, blocks), snaps: map[string][]held{}}
	return &twins{t: t, v: create(t, blocks, pool), m: m}
}

func (w *twins) wantAlike(what string, err error, want api.Code, at int) {
	w.t.Helper()
	if want == 0 {
		wantDone(w.t, what, err)
	} else {
		wantFaultAt(w.t, what, err, want, at)
	}
	if has, should := look(w.t, w.v), w.m.look(); !same(has, should) {
		w.t.Fatalf("%s: %v, want %v", what, has, should)
	}
}

func (w *twins) write(what string, block int, text string) {
	w.t.Helper()
	w.wantAlike("Write"+what, w.v.Write(block, text), w.m.write(block, text), 0)
}

func (w *twins) snap(what, name string) {
	w.t.Helper()
	w.wantAlike("Snap"+what, w.v.Snap(name), w.m.snap(name), 0)
}

func (w *twins) drop(what, name string) {
	w.t.Helper()
	w.wantAlike("Drop"+what, w.v.Drop(name), w.m.drop(name), 0)
}

func (w *twins) roll(what, name string) {
	w.t.Helper()
	w.wantAlike("Roll"+what, w.v.Roll(name), w.m.roll(name), 0)
}

func (w *twins) send(what, from, to string) {
	w.t.Helper()
	sender, err := w.v.Send(from, to)
	left, want := w.m.send(from, to)
	w.wantAlike("Send"+what, err, want, 0)
	if want == 0 {
		w.senders = append(w.senders, &begun{sender, left})
	}
}

func (w *twins) next(what string, r *rand.Rand) {
	w.t.Helper()
	for _, b := range w.senders {
		most := r.Intn(6) - 1
		want := b.left[:max(0, min(most, len(b.left)))]
		if got := b.sender.Next(most); got != want {
			w.t.Fatalf("Next(%d)%s = %q, want %q", most, what, got, want)
		}
		b.left = b.left[len(want):]
	}
}

func (w *twins) receive(what, stream, base, name string) api.Code {
	w.t.Helper()
	want, at := w.m.receive(stream, base, name)
	w.wantAlike("Receive"+what, w.v.Receive(stream, base, name), want, at)
	return want
}

// craft: a stream with that base if it is there, else with none; some of them
// are spoilt.
func craft(r *rand.Rand, m *model, base string) string {
	s, head := "M1"+char(len(m.now)), noBase
	if l := m.snaps[base]; l != nil {
		head = "\x01" + sumText(told(l, nil))
	}
	s += head
	for block := range m.now {
		if text := "abcdef"[:r.Intn(7)]; r.Intn(4) == 0 {
			s += char(block+1) + char(len(text)) + text
		}
	}
	s += "\x00"
	if r.Intn(8) == 0 {
		s = spoil(r, s)
	}
	s = summed(s)
	if r.Intn(8) == 0 {
		s = spoil(r, s)
	}
	return s
}

func spoil(r *rand.Rand, s string) string {
	switch at := r.Intn(len(s)); r.Intn(4) {
	case 0:
		return s[:at]
	case 1:
		return s + char(r.Intn(256))
	case 2:
		return s[:at] + char(r.Intn(256)) + s[at+1:]
	default:
		return s[:at] + char(r.Intn(18)) + s[at+1:]
	}
}

// TestLongRuns holds volumes of many sizes against the model, call by call.
func TestLongRuns(t *testing.T) {
	names := []string{"a", "b", "c", "d", "e", "f", "g", "zzzz", ""}
	texts := []string{"", "", "a", "b", "c", "abcdef", "\x00", "abcdefg"}
	received := map[api.Code]int{}
	for seed := range 120 {
		r := rand.New(rand.NewSource(int64(seed)))
		blocks := 1 + r.Intn(16)
		w := bear(t, blocks, 1+r.Intn(40))
		for step := range 300 {
			what := " in run " + strconv.Itoa(seed) + ", step " + strconv.Itoa(step)
			name, other := names[r.Intn(len(names))], names[r.Intn(len(names))]
			switch r.Intn(12) {
			case 0:
				w.snap(what, name)
			case 1, 2:
				w.drop(what, name)
			case 3:
				w.send(what, other, name)
			case 4:
				w.roll(what, name)
			case 5, 6:
				received[w.receive(what, craft(r, w.m, other), other, name)]++
			case 7:
				received[w.receive(what, craft(r, w.m, names[r.Intn(len(names))]), other, name)]++
			default:
				w.write(what, r.Intn(blocks+2)-1, texts[r.Intn(len(texts))])
			}
			w.next(what, r)
		}
	}
	for _, code := range []api.Code{0, api.ErrName, api.ErrNone, api.ErrTwice, api.ErrMany, api.ErrForm, api.ErrSum, api.ErrBase, api.ErrFull} {
		if received[code] < 20 {
			t.Errorf("the runs have the code %d of Receive %d times only", code, received[code])
		}
	}
}
