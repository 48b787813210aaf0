package packet_test

import (
	"bytes"
	"encoding/hex"
	"fmt"
	"slices"
	"strings"
	"testing"
	"unicode/utf8"

	"bascule/api"
	"bascule/packet"
)

// may tells whether a packet may be, field by field, by the table of the chapter.
func may(p api.Packet) bool {
	is := func(types ...int) bool { return slices.Contains(types, p.Type) }
	from := func(n, low, top int) bool { return low <= n && n <= top }
	known := from(p.Type, 1, 14)
	dup := !p.Dup || is(3) && p.Msg.Qos > 0
	id := p.Id == 0
	if is(4, 5, 6, 7, 8, 9, 10, 11) || is(3) && p.Msg.Qos > 0 {
		id = from(p.Id, 1, 65535)
	}
	msg := p.Msg == api.Message{}
	if is(3) || is(1) && p.HasWill {
		msg = isString(p.Msg.Topic, 1) && from(p.Msg.Qos, 0, 2) && (is(3) || len(p.Msg.Payload) < 65536)
	}
	connect := isString(p.Client, 0) && from(p.Alive, 0, 65535)
	if !is(1) {
		connect = p.Client == "" && !p.Clean && p.Alive == 0 && !p.HasWill && !p.HasUser && !p.HasPass
	}
	user := isString(p.User, 0) && (p.HasUser || p.User == "")
	pass := len(p.Pass) < 65536 && (p.HasPass || p.Pass == "") && (p.HasUser || !p.HasPass)
	codes := is(2, 9) || len(p.Codes) == 0
	if is(2) {
		codes = len(p.Codes) == 1 && from(p.Codes[0], 0, 5) && (!p.Present || p.Codes[0] == 0)
	}
	if is(9) {
		codes = len(p.Codes) > 0 && !slices.ContainsFunc(p.Codes, func(c int) bool { return !slices.Contains([]int{0, 1, 2, 128}, c) })
	}
	subs := len(p.Subs) == 0
	if is(8, 10) {
		wrong := func(s api.Sub) bool { return !isString(s.Filter, 1) || !from(s.Qos, 0, 2) || is(10) && s.Qos != 0 }
		subs = len(p.Subs) > 0 && !slices.ContainsFunc(p.Subs, wrong)
	}
	present := is(2) || !p.Present
	return known && dup && id && msg && connect && user && pass && codes && subs && present && len(wantBehind(p)) <= 268435455
}

// isString tells whether s is a string of least bytes or more, by the library.
func isString(s string, least int) bool {
	return len(s) >= least && len(s) <= 65535 && utf8.ValidString(s) && !strings.Contains(s, "\x00")
}

// wantWord are the bytes of a word.
func wantWord(n int) string {
	return string([]byte{byte(n >> 8), byte(n)})
}

// wantText are the bytes of a text.
func wantText(s string) string {
	return wantWord(len(s)) + s
}

// wantBit is weight, if set.
func wantBit(set bool, weight int) int {
	return map[bool]int{true: weight}[set]
}

// wantLength are the bytes of a length.
func wantLength(n int) string {
	s := ""
	for n > 127 {
		s += string([]byte{byte(n&127 | 128)})
		n >>= 7
	}
	return s + string([]byte{byte(n)})
}

// wantFlags is the lower half of a packet's first byte.
func wantFlags(p api.Packet) int {
	if p.Type == 3 {
		return wantBit(p.Dup, 8) | p.Msg.Qos<<1 | wantBit(p.Msg.Retain, 1)
	}
	return map[int]int{6: 2, 8: 2, 10: 2}[p.Type]
}

// wantBehind is what stands behind the length.
func wantBehind(p api.Packet) string {
	var s strings.Builder
	add := func(part string, where bool) {
		if where {
			s.WriteString(part)
		}
	}
	id := wantWord(p.Id)
	switch p.Type {
	case 1:
		has := wantBit(p.Clean, 2) | wantBit(p.HasWill, 4) | p.Msg.Qos<<3 | wantBit(p.Msg.Retain, 32) | wantBit(p.HasPass, 64) | wantBit(p.HasUser, 128)
		add("\x00\x04MQTT\x04"+string([]byte{byte(has)})+wantWord(p.Alive)+wantText(p.Client), true)
		add(wantText(p.Msg.Topic)+wantText(p.Msg.Payload), p.HasWill)
		add(wantText(p.User), p.HasUser)
		add(wantText(p.Pass), p.HasPass)
	case 2:
		add(string([]byte{byte(wantBit(p.Present, 1))}), true)
		for _, c := range p.Codes {
			add(string([]byte{byte(c)}), true)
		}
	case 3:
		add(wantText(p.Msg.Topic), true)
		add(id, p.Msg.Qos > 0)
		add(p.Msg.Payload, true)
	case 4, 5, 6, 7, 11:
		add(id, true)
	case 8, 10:
		add(id, true)
		for _, f := range p.Subs {
			add(wantText(f.Filter), true)
			add(string([]byte{byte(f.Qos)}), p.Type == 8)
		}
	case 9:
		codes := make([]byte, len(p.Codes))
		for k, c := range p.Codes {
			codes[k] = byte(c)
		}
		add(id+string(codes), true)
	}
	return s.String()
}

// wantBytes are the bytes of a packet that may be.
func wantBytes(p api.Packet) []byte {
	s := wantBehind(p)
	return []byte(string([]byte{byte(p.Type<<4 | wantFlags(p))}) + wantLength(len(s)) + s)
}

// cutter cuts pieces off bytes; what is not there it takes for noughts.
type cutter struct{ s string }

func (c *cutter) cut(n int) string {
	n = min(n, len(c.s))
	piece := c.s[:n]
	c.s = c.s[n:]
	return piece
}

func (c *cutter) byte() int {
	return int((c.cut(1) + "\x00")[0])
}

func (c *cutter) word() int {
	return c.byte()<<8 | c.byte()
}

func (c *cutter) text() string {
	return c.cut(c.word())
}

// guess takes bytes for a packet, whether they are one or not.
func guess(b []byte) api.Packet {
	c := &cutter{string(b)}
	first := c.byte()
	for c.byte() > 127 {
	}
	p := api.Packet{Type: first >> 4}
	switch p.Type {
	case 1:
		c.cut(7)
		guessConnect(&p, c)
	case 2:
		p.Present = c.byte() == 1
		p.Codes = []int{c.byte()}
	case 3:
		p.Dup, p.Msg.Qos, p.Msg.Retain = first&8 > 0, first>>1&3, first&1 > 0
		p.Msg.Topic = c.text()
		if p.Msg.Qos > 0 {
			p.Id = c.word()
		}
		p.Msg.Payload = c.s
	case 4, 5, 6, 7, 11:
		p.Id = c.word()
	case 8, 10:
		p.Id = c.word()
		for c.s != "" {
			f := api.Sub{Filter: c.text()}
			if p.Type == 8 {
				f.Qos = c.byte()
			}
			p.Subs = append(p.Subs, f)
		}
	case 9:
		p.Id = c.word()
		for c.s != "" {
			p.Codes = append(p.Codes, c.byte())
		}
	}
	return p
}

// guessConnect takes what stands behind a Connect's number for its fields.
func guessConnect(p *api.Packet, c *cutter) {
	has := c.byte()
	p.Clean, p.HasWill, p.HasPass, p.HasUser = has&2 > 0, has&4 > 0, has&64 > 0, has&128 > 0
	p.Msg.Qos, p.Msg.Retain = has>>3&3, has&32 > 0
	p.Alive = c.word()
	p.Client = c.text()
	if p.HasWill {
		p.Msg.Topic, p.Msg.Payload = c.text(), c.text()
	}
	if p.HasUser {
		p.User = c.text()
	}
	if p.HasPass {
		p.Pass = c.text()
	}
}

// wantPacket is the packet that b are, if they are one: it may be, and has just these bytes.
func wantPacket(b []byte) (api.Packet, bool) {
	if len(b) == 0 {
		return api.Packet{}, false
	}
	p := guess(b)
	if !may(p) || !bytes.Equal(wantBytes(p), b) {
		return api.Packet{}, false
	}
	return p, true
}

// same tells whether two packets are, field by field; a list without elements may be nil or not.
func same(p, q api.Packet) bool {
	return p.Type == q.Type && p.Dup == q.Dup && p.Id == q.Id && p.Msg == q.Msg &&
		p.Client == q.Client && p.Clean == q.Clean && p.Alive == q.Alive &&
		p.HasWill == q.HasWill && p.HasUser == q.HasUser && p.HasPass == q.HasPass && p.User == q.User && p.Pass == q.Pass &&
		p.Present == q.Present && slices.Equal(p.Codes, q.Codes) && slices.Equal(p.Subs, q.Subs)
}

// none tells whether p is a packet of noughts.
func none(p api.Packet) bool {
	return same(p, api.Packet{})
}

// brief is p with its first elements and bytes alone, as they are told when a test fails: some packets have a great many.
func brief(p api.Packet) string {
	cut := func(s string) string { return s[:min(20, len(s))] }
	lists := fmt.Sprintf("%d codes, %d subs", len(p.Codes), len(p.Subs))
	p.Client, p.User, p.Pass = cut(p.Client), cut(p.User), cut(p.Pass)
	p.Msg.Topic, p.Msg.Payload = cut(p.Msg.Topic), cut(p.Msg.Payload)
	p.Codes = p.Codes[:min(5, len(p.Codes))]
	p.Subs = slices.Clone(p.Subs[:min(5, len(p.Subs))])
	for k := range p.Subs {
		p.Subs[k].Filter = cut(p.Subs[k].Filter)
	}
	return fmt.Sprintf("%+v (%s)", p, lists)
}

// fromHex are the bytes that are written out by digits, with spaces between.
func fromHex(t *testing.T, digits string) []byte {
	t.Helper()
	b, err := hex.DecodeString(strings.ReplaceAll(digits, " ", ""))
	if err != nil {
		t.Fatal(err)
	}
	return b
}

// isPacket holds that p may be, that b are its bytes, and that they are read as it.
func isPacket(t *testing.T, p api.Packet, b []byte) {
	t.Helper()
	if e := packet.Check(p); e != api.OK {
		t.Fatalf("Check(%s): %d", brief(p), e)
	}
	if out, e := packet.Bytes(p); !bytes.Equal(out, b) || e != api.OK {
		t.Fatalf("Bytes(%s): %.80x, %d bytes, %d, not %.80x, %d bytes", brief(p), out, len(out), e, b, len(b))
	}
	if q, e := packet.Parse(b); !same(q, p) || e != api.OK {
		t.Fatalf("Parse(%.80x, %d bytes): %s, %d, not %s", b, len(b), brief(q), e, brief(p))
	}
}

// noPacket holds that p may not be, and that nothing is told beside the error.
func noPacket(t *testing.T, p api.Packet) {
	t.Helper()
	if e := packet.Check(p); e != api.ErrArg {
		t.Fatalf("Check(%s): %d", brief(p), e)
	}
	if b, e := packet.Bytes(p); len(b) != 0 || e != api.ErrArg {
		t.Fatalf("Bytes(%s): %.80x, %d bytes, %d", brief(p), b, len(b), e)
	}
}

// noBytes holds that b are no packet, and that nothing is told beside the error.
func noBytes(t *testing.T, b []byte) {
	t.Helper()
	if p, e := packet.Parse(b); !none(p) || e != api.ErrPacket {
		t.Fatalf("Parse(%.80x, %d bytes): %s, %d", b, len(b), brief(p), e)
	}
}

// holdPacket holds what is said of p against the model, and answers whether it may be.
func holdPacket(t *testing.T, p api.Packet) bool {
	t.Helper()
	if !may(p) {
		noPacket(t, p)
		return false
	}
	isPacket(t, p, wantBytes(p))
	return true
}

// holdBytes holds what is said of b against the model, and answers whether they are a packet.
func holdBytes(t *testing.T, b []byte) bool {
	t.Helper()
	p, ok := wantPacket(b)
	if !ok {
		noBytes(t, b)
		return false
	}
	isPacket(t, p, b)
	return true
}
