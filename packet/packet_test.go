package packet_test

import (
	"slices"
	"strings"
	"testing"

	"bascule/api"
	"bascule/packet"
)

// P10.1 and P10.2: the chapter's examples.
func TestExamples(t *testing.T) {
	isPacket(t, api.Packet{Type: api.Publish, Msg: api.Message{Topic: "a", Payload: "hi", Qos: 1}, Id: 10}, fromHex(t, "32 07 00 01 61 00 0a 68 69"))
	isPacket(t, api.Packet{Type: api.Pingreq}, fromHex(t, "c0 00"))
	noBytes(t, fromHex(t, "c1 00"))
	isPacket(t, api.Packet{Type: api.Connect, Client: "a", Clean: true, Alive: 60}, fromHex(t, "10 0d 00 04 4d 51 54 54 04 02 00 3c 00 01 61"))
}

// P10.1 and P10.2: packets of each type, as bytes that are written out by hand, and back.
func TestKnown(t *testing.T) {
	for _, x := range knowns() {
		isPacket(t, x.p, fromHex(t, x.digits))
	}
}

// P10.1 and P10.2: packets of each type, with each mark, by the model.
func TestPacketsByTheModel(t *testing.T) {
	for _, p := range packets() {
		holdPacket(t, p)
	}
}

// P10.1: a type that is none may not be, whatever else is said.
func TestNoType(t *testing.T) {
	for _, x := range knowns() {
		for _, kind := range append(oddNumbers(), 0, 15, 16, 17, 19, 28, -3, -12, 259, 268) {
			p := x.p
			p.Type = kind
			holdPacket(t, p)
			if kind < 1 || kind > 14 {
				noPacket(t, p)
			}
		}
	}
	noPacket(t, api.Packet{})
	noPacket(t, api.Packet{Type: 15})
}

// P10.1: each type with the fields of each other.
func TestFieldsOfAnother(t *testing.T) {
	for _, x := range knowns() {
		for kind := 1; kind < 15; kind++ {
			p := x.p
			p.Type = kind
			holdPacket(t, p)
		}
	}
}

// P10.1: each field that a type has no use for, set.
func TestNoUse(t *testing.T) {
	all := changes()
	for _, x := range knowns() {
		for _, name := range noUse()[x.p.Type] {
			p := x.p
			for _, c := range all {
				if c.name == name {
					c.do(&p)
				}
			}
			noPacket(t, p)
		}
	}
}

// P10.1: one field and two fields turned, in every packet, by the model.
func TestFieldsTurned(t *testing.T) {
	for _, x := range knowns() {
		for _, one := range changes() {
			p := x.p
			one.do(&p)
			holdPacket(t, p)
			for _, two := range changes() {
				q := p
				two.do(&q)
				holdPacket(t, q)
			}
		}
	}
}

// P10.1: each number of each packet at all edges, whether its type has use for it or not.
func TestNumbersAtTheirEdges(t *testing.T) {
	for _, x := range knowns() {
		for _, n := range oddNumbers() {
			for _, do := range []func(p *api.Packet){
				func(p *api.Packet) { p.Type = n },
				func(p *api.Packet) { p.Id = n },
				func(p *api.Packet) { p.Msg.Qos = n },
				func(p *api.Packet) { p.Alive = n },
				func(p *api.Packet) { p.Codes = []int{n} },
				func(p *api.Packet) { p.Codes = append(slices.Clone(p.Codes), n) },
				func(p *api.Packet) { p.Codes = append([]int{n}, p.Codes...) },
				func(p *api.Packet) { p.Present, p.Codes = true, []int{n} },
				func(p *api.Packet) { p.Subs = []api.Sub{{Filter: "f", Qos: n}} },
				func(p *api.Packet) { p.Subs = append(slices.Clone(p.Subs), api.Sub{Filter: "f", Qos: n}) },
				func(p *api.Packet) { p.Subs = append([]api.Sub{{Filter: "f", Qos: n}}, p.Subs...) },
			} {
				p := x.p
				do(&p)
				holdPacket(t, p)
			}
		}
	}
}

// P10.1: Ids, by hand: from 1 to 65535, of each type that has one.
func TestIds(t *testing.T) {
	for _, p := range []api.Packet{
		{Type: 3, Msg: api.Message{Topic: "t", Qos: 1}}, {Type: 3, Msg: api.Message{Topic: "t", Qos: 2}, Dup: true},
		{Type: 4}, {Type: 5}, {Type: 6}, {Type: 7}, {Type: 11},
		{Type: 8, Subs: []api.Sub{{Filter: "f"}}}, {Type: 9, Codes: []int{0}}, {Type: 10, Subs: []api.Sub{{Filter: "f"}}},
	} {
		for _, id := range []int{1, 2, 255, 256, 65534, 65535} {
			p.Id = id
			isPacket(t, p, wantBytes(p))
		}
		for _, id := range []int{0, -1, 65536, 65537, 131072, 1 << 32, 1<<32 + 1} {
			p.Id = id
			noPacket(t, p)
		}
	}
}

// P10.1: a Publish of quality 0 has no Id and no Dup.
func TestQualityNought(t *testing.T) {
	for _, id := range []int{-1, 1, 10, 65535, 65536} {
		noPacket(t, api.Packet{Type: 3, Msg: api.Message{Topic: "a"}, Id: id})
		noPacket(t, api.Packet{Type: 3, Msg: api.Message{Topic: "a", Payload: "x", Retain: true}, Id: id})
		noPacket(t, api.Packet{Type: 3, Msg: api.Message{Topic: "a"}, Id: id, Dup: true})
	}
	noPacket(t, api.Packet{Type: 3, Msg: api.Message{Topic: "a"}, Dup: true})
	noPacket(t, api.Packet{Type: 3, Msg: api.Message{Topic: "a", Payload: "x", Retain: true}, Dup: true})
}

// P10.1: qualities, by hand: from 0 to 2; of an Unsubscribe 0.
func TestQualities(t *testing.T) {
	for _, qos := range []int{-1 << 32, -256, -3, -2, -1, 0, 1, 2, 3, 4, 7, 256, 1 << 32, 1<<32 + 1} {
		publish := api.Packet{Type: 3, Msg: api.Message{Topic: "t", Qos: qos}}
		if qos != 0 {
			publish.Id = 1
		}
		will := api.Packet{Type: 1, HasWill: true, Msg: api.Message{Topic: "t", Qos: qos}}
		first := api.Packet{Type: 8, Id: 1, Subs: []api.Sub{{Filter: "f", Qos: qos}, {Filter: "f"}}}
		last := api.Packet{Type: 8, Id: 1, Subs: []api.Sub{{Filter: "f"}, {Filter: "f", Qos: qos}}}
		for _, p := range []api.Packet{publish, will, first, last} {
			if 0 <= qos && qos <= 2 {
				isPacket(t, p, wantBytes(p))
			} else {
				noPacket(t, p)
			}
		}
		if qos != 0 {
			first.Type, last.Type = 10, 10
			noPacket(t, first)
			noPacket(t, last)
			noPacket(t, api.Packet{Type: 1, Msg: api.Message{Qos: qos}})
		}
	}
}

// P10.1: Alive is a word.
func TestAlive(t *testing.T) {
	for _, n := range []int{0, 1, 255, 256, 32768, 65534, 65535} {
		p := api.Packet{Type: 1, Client: "c", Alive: n}
		isPacket(t, p, wantBytes(p))
	}
	for _, n := range []int{-1, -2, -65536, 65536, 65537, 1 << 32} {
		noPacket(t, api.Packet{Type: 1, Client: "c", Alive: n})
	}
}

// P10.1: a Connack has one code, from 0 to 5, and 0 if a session is there.
func TestConnackCodes(t *testing.T) {
	for code := -3; code < 300; code++ {
		p := api.Packet{Type: 2, Codes: []int{code}}
		if 0 <= code && code <= 5 {
			isPacket(t, p, []byte{0x20, 2, 0, byte(code)})
		} else {
			noPacket(t, p)
		}
		p.Present = true
		if code == 0 {
			isPacket(t, p, []byte{0x20, 2, 1, 0})
		} else {
			noPacket(t, p)
		}
	}
	for _, present := range []bool{false, true} {
		for _, codes := range [][]int{nil, {}, {0, 0}, {1, 1}, {0, 5}, {5, 0}, {0, 0, 0}} {
			noPacket(t, api.Packet{Type: 2, Present: present, Codes: codes})
		}
	}
}

// P10.1: a Suback has codes, one or more, each 0, 1, 2 or 128.
func TestSubackCodes(t *testing.T) {
	noPacket(t, api.Packet{Type: 9, Id: 1})
	noPacket(t, api.Packet{Type: 9, Id: 1, Codes: []int{}})
	for code := -130; code < 400; code++ {
		for _, codes := range [][]int{{code}, {0, code}, {code, 128}, {1, 2, code, 2}} {
			p := api.Packet{Type: 9, Id: 258, Codes: codes}
			if code == 0 || code == 1 || code == 2 || code == 128 {
				isPacket(t, p, wantBytes(p))
			} else {
				noPacket(t, p)
			}
		}
	}
	for _, many := range []int{2, 124, 125, 126, 127, 1000, 70000} {
		codes := slices.Repeat([]int{128, 0, 2, 1}, many)
		isPacket(t, api.Packet{Type: 9, Id: 3, Codes: codes}, wantBytes(api.Packet{Type: 9, Id: 3, Codes: codes}))
		codes[len(codes)-1] = 3
		noPacket(t, api.Packet{Type: 9, Id: 3, Codes: codes})
	}
}

// P10.1: a Subscribe and an Unsubscribe have filters, one or more, each a string that is not empty.
func TestFilters(t *testing.T) {
	for _, kind := range []int{8, 10} {
		noPacket(t, api.Packet{Type: kind, Id: 1})
		noPacket(t, api.Packet{Type: kind, Id: 1, Subs: []api.Sub{}})
		for _, many := range []int{1, 2, 30, 1000, 50000} {
			subs := slices.Repeat([]api.Sub{{Filter: "a/b"}, {Filter: "\xc3\xa4"}}, many)
			p := api.Packet{Type: kind, Id: 9, Subs: subs}
			isPacket(t, p, wantBytes(p))
			for _, at := range []int{0, many, len(subs) - 1} {
				for _, f := range []string{"", "\x00", "\xc3", "a\xff", strings.Repeat("x", 65536)} {
					turned := slices.Clone(subs)
					turned[at].Filter = f
					noPacket(t, api.Packet{Type: kind, Id: 9, Subs: turned})
				}
			}
		}
	}
}

// P10.1: a mark that is missing, with what would stand by it.
func TestWithoutTheMark(t *testing.T) {
	for _, p := range []api.Packet{
		{Type: 1, User: "u"},
		{Type: 1, Pass: "p"},
		{Type: 1, HasPass: true},
		{Type: 1, HasPass: true, Pass: "p"},
		{Type: 1, HasPass: true, User: "u"},
		{Type: 1, HasPass: true, User: "u", Pass: "p"},
		{Type: 1, HasUser: true, Pass: "p"},
		{Type: 1, HasUser: true, User: "u", Pass: "p"},
		{Type: 1, Msg: api.Message{Topic: "a"}},
		{Type: 1, Msg: api.Message{Payload: "a"}},
		{Type: 1, Msg: api.Message{Qos: 1}},
		{Type: 1, Msg: api.Message{Retain: true}},
		{Type: 1, Msg: api.Message{Topic: "a", Payload: "x", Qos: 2, Retain: true}},
		{Type: 1, HasWill: true},
		{Type: 1, HasWill: true, Msg: api.Message{Payload: "x", Qos: 1, Retain: true}},
	} {
		for _, client := range []string{"", "c"} {
			p.Client, p.Clean = client, client == ""
			noPacket(t, p)
		}
	}
}

// strange are bytes that are no string, and few enough.
func strange() []string {
	return []string{"\x00", "a\x00", "\x00a", "\xff", "\x80", "\xc0\x80", "\xc3", "a\xc3", "\xed\xa0\x80", "\xf4\x90\x80\x80", "\xe0\x80\x80", strings.Repeat("a", 65534) + "\x00", "\xff" + strings.Repeat("a", 65534), strings.Repeat("a", 65534) + "\xc3"}
}

// stringFields put s where a type has a string.
func stringFields(s string) []api.Packet {
	return []api.Packet{
		{Type: 1, Client: s},
		{Type: 1, HasWill: true, Msg: api.Message{Topic: s}},
		{Type: 1, HasUser: true, User: s},
		{Type: 1, Client: "c", HasWill: true, Msg: api.Message{Topic: s, Qos: 2, Payload: "x"}, HasUser: true, User: "u", HasPass: true, Pass: "p"},
		{Type: 1, Client: "c", HasWill: true, Msg: api.Message{Topic: "w", Qos: 2, Payload: "x"}, HasUser: true, User: s, HasPass: true, Pass: "p"},
		{Type: 3, Msg: api.Message{Topic: s}},
		{Type: 3, Msg: api.Message{Topic: s, Payload: "x", Qos: 2}, Id: 3},
		{Type: 8, Id: 1, Subs: []api.Sub{{Filter: s}}},
		{Type: 8, Id: 1, Subs: []api.Sub{{Filter: "f", Qos: 1}, {Filter: s, Qos: 2}, {Filter: "g"}}},
		{Type: 10, Id: 1, Subs: []api.Sub{{Filter: s}}},
		{Type: 10, Id: 1, Subs: []api.Sub{{Filter: "f"}, {Filter: s}, {Filter: "g"}}},
	}
}

// textFields put s where a type has a text.
func textFields(s string) []api.Packet {
	return []api.Packet{
		{Type: 1, HasWill: true, Msg: api.Message{Topic: "w", Payload: s}},
		{Type: 1, HasUser: true, HasPass: true, Pass: s},
		{Type: 1, Client: "c", HasWill: true, Msg: api.Message{Topic: "w", Payload: s, Retain: true}, HasUser: true, User: "u", HasPass: true, Pass: s},
	}
}

// P10.1 and P10.2: bytes that are no string, wherever a string has to be: neither laid down nor read.
func TestNoStrings(t *testing.T) {
	for _, s := range strange() {
		for _, p := range stringFields(s) {
			noPacket(t, p)
			noBytes(t, wantBytes(p))
		}
	}
}

// P10.1: texts and a Publish's Payload are any bytes.
func TestAnyBytes(t *testing.T) {
	every := make([]byte, 256)
	for k := range every {
		every[k] = byte(k)
	}
	for _, s := range append(strange(), string(every)) {
		for _, p := range textFields(s) {
			isPacket(t, p, wantBytes(p))
		}
		for qos := range 3 {
			p := api.Packet{Type: 3, Id: 5 * min(qos, 1), Msg: api.Message{Topic: "t", Payload: s, Qos: qos}}
			isPacket(t, p, wantBytes(p))
		}
	}
}

// P10.1: strings that are empty: a Client and a User may be, a Topic and a Filter may not.
func TestEmptyStrings(t *testing.T) {
	for _, p := range stringFields("") {
		ok := p.Type == 1 && (!p.HasWill || p.Msg.Topic != "")
		if ok {
			isPacket(t, p, wantBytes(p))
			continue
		}
		noPacket(t, p)
		noBytes(t, wantBytes(p))
	}
	for _, p := range textFields("") {
		isPacket(t, p, wantBytes(p))
	}
	for qos := range 3 {
		p := api.Packet{Type: 3, Id: 5 * min(qos, 1), Msg: api.Message{Topic: "t", Qos: qos}}
		isPacket(t, p, wantBytes(p))
	}
}

// P10.1: strings and texts of 65535 bytes may be; those of one byte more, and of far more, may not.
func TestLongest(t *testing.T) {
	for _, x := range []string{"a", "\xc3\xa4", "\xe2\x82\xac", "\xf0\x9f\x98\x80"} {
		whole := strings.Repeat(x, 65535/len(x)) + strings.Repeat("z", 65535%len(x))
		for _, p := range append(stringFields(whole), textFields(whole)...) {
			isPacket(t, p, wantBytes(p))
		}
		for _, more := range []string{"z", x, whole + "zz", strings.Repeat("z", 1<<20)} {
			for _, p := range append(stringFields(whole+more), textFields(whole+more)...) {
				noPacket(t, p)
			}
		}
	}
	most := strings.Repeat("\xff", 65535)
	for _, p := range textFields(most) {
		isPacket(t, p, wantBytes(p))
	}
	for _, p := range textFields(most + "\xff") {
		noPacket(t, p)
	}
}

// P10.1 and R2: a list without elements may be nil or not, where a type has no use for it.
func TestEmptyLists(t *testing.T) {
	for _, x := range knowns() {
		p := x.p
		if len(p.Codes) == 0 {
			p.Codes = []int{}
		}
		if len(p.Subs) == 0 {
			p.Subs = make([]api.Sub, 0, 3)
		}
		isPacket(t, p, fromHex(t, x.digits))
	}
}

// P10.1: Check answers what Bytes does, and no other error.
func TestCheckAsBytes(t *testing.T) {
	for _, p := range packets() {
		for _, c := range changes() {
			q := p
			c.do(&q)
			_, e := packet.Bytes(q)
			if packet.Check(q) != e || e != api.OK && e != api.ErrArg {
				t.Errorf("%v: Check %d, Bytes %d", q, packet.Check(q), e)
			}
		}
	}
}
