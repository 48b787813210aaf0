package packet_test

import (
	"math"
	"slices"
	"testing"

	"bascule/api"
)

// known is a packet, and its bytes written out by hand.
type known struct {
	p      api.Packet
	digits string
}

// knowns are packets of each type with ordinary fields.
func knowns() []known {
	return []known{
		{api.Packet{Type: 1, Client: "a", Clean: true, Alive: 60}, "10 0d 00044d515454 04 02 003c 000161"},
		{api.Packet{Type: 1}, "10 0c 00044d515454 04 00 0000 0000"},
		{api.Packet{Type: 1, Client: "pump", Alive: 258, HasUser: true, User: "me"}, "10 14 00044d515454 04 80 0102 0004 70756d70 0002 6d65"},
		{api.Packet{Type: 1, Client: "b", Clean: true, Alive: 65535, HasUser: true, User: "u", HasPass: true, Pass: "\x00\xff"}, "10 14 00044d515454 04 c2 ffff 000162 000175 000200ff"},
		{api.Packet{Type: 1, HasUser: true, HasPass: true}, "10 10 00044d515454 04 c0 0000 0000 0000 0000"},
		{api.Packet{Type: 1, Client: "c", HasWill: true, Msg: api.Message{Topic: "w/x", Payload: "gone"}}, "10 18 00044d515454 04 04 0000 000163 0003 772f78 0004 676f6e65"},
		{api.Packet{Type: 1, Client: "c", Clean: true, HasWill: true, Msg: api.Message{Topic: "w", Qos: 1}}, "10 12 00044d515454 04 0e 0000 000163 000177 0000"},
		{api.Packet{Type: 1, HasWill: true, Msg: api.Message{Topic: "w", Payload: "x", Qos: 2, Retain: true}, HasUser: true, User: "u", HasPass: true, Pass: "p"}, "10 18 00044d515454 04 f4 0000 0000 000177 000178 000175 000170"},
		{api.Packet{Type: 1, Clean: true, Alive: 1, HasWill: true, Msg: api.Message{Topic: "w", Payload: "\xc3\x00", Retain: true}, HasUser: true, User: "\xc3\xa4"}, "10 17 00044d515454 04 a6 0001 0000 000177 0002c300 0002c3a4"},
		{api.Packet{Type: 2, Codes: []int{0}}, "20 02 00 00"},
		{api.Packet{Type: 2, Present: true, Codes: []int{0}}, "20 02 01 00"},
		{api.Packet{Type: 2, Codes: []int{5}}, "20 02 00 05"},
		{api.Packet{Type: 3, Msg: api.Message{Topic: "a", Payload: "hi", Qos: 1}, Id: 10}, "32 07 000161 000a 6869"},
		{api.Packet{Type: 3, Msg: api.Message{Topic: "a/b", Retain: true}}, "31 05 0003612f62"},
		{api.Packet{Type: 3, Msg: api.Message{Topic: "a/b", Payload: "\x00\x80\xff"}}, "30 08 0003612f62 0080ff"},
		{api.Packet{Type: 3, Msg: api.Message{Topic: "\xe2\x82\xac", Payload: "7", Qos: 1, Retain: true}, Id: 65535, Dup: true}, "3b 08 0003e282ac ffff 37"},
		{api.Packet{Type: 3, Msg: api.Message{Topic: "a", Qos: 2}, Id: 1, Dup: true}, "3c 05 000161 0001"},
		{api.Packet{Type: 3, Msg: api.Message{Topic: "a", Payload: "\x00\x01", Qos: 2, Retain: true}, Id: 513}, "35 07 000161 0201 0001"},
		{api.Packet{Type: 4, Id: 1}, "40 02 0001"},
		{api.Packet{Type: 5, Id: 65535}, "50 02 ffff"},
		{api.Packet{Type: 6, Id: 258}, "62 02 0102"},
		{api.Packet{Type: 7, Id: 256}, "70 02 0100"},
		{api.Packet{Type: 8, Id: 10, Subs: []api.Sub{{Filter: "a/#", Qos: 1}, {Filter: "+"}}}, "82 0c 000a 0003612f23 01 00012b 00"},
		{api.Packet{Type: 8, Id: 1, Subs: []api.Sub{{Filter: "a", Qos: 2}}}, "82 06 0001 000161 02"},
		{api.Packet{Type: 8, Id: 65535, Subs: []api.Sub{{Filter: "a", Qos: 2}, {Filter: "a", Qos: 1}, {Filter: "a"}}}, "82 0e ffff 000161 02 000161 01 000161 00"},
		{api.Packet{Type: 9, Id: 10, Codes: []int{1, 128}}, "90 04 000a 01 80"},
		{api.Packet{Type: 9, Id: 515, Codes: []int{0}}, "90 03 0203 00"},
		{api.Packet{Type: 9, Id: 1, Codes: []int{128, 2, 1, 0, 0}}, "90 07 0001 80 02 01 00 00"},
		{api.Packet{Type: 10, Id: 10, Subs: []api.Sub{{Filter: "a"}}}, "a2 05 000a 000161"},
		{api.Packet{Type: 10, Id: 259, Subs: []api.Sub{{Filter: "a/b"}, {Filter: "#"}, {Filter: "a/b"}}}, "a2 0f 0103 0003612f62 000123 0003612f62"},
		{api.Packet{Type: 11, Id: 10}, "b0 02 000a"},
		{api.Packet{Type: 12}, "c0 00"},
		{api.Packet{Type: 13}, "d0 00"},
		{api.Packet{Type: 14}, "e0 00"},
	}
}

// oddNumbers are edges of all numbers of a packet, and numbers the lower bytes of which are those of one that may be.
func oddNumbers() []int {
	return []int{0, 1, -1, 2, -2, 3, 4, 5, 6, 7, 127, 128, 129, 255, 256, 257, 65534, 65535, 65536, 65537, -65535, -65536, 131073, 1 << 32, 1<<32 + 1, math.MaxInt - 1, math.MaxInt, math.MinInt, math.MinInt + 1}
}

// change is a name, and what turns a packet.
type change struct {
	name string
	do   func(p *api.Packet)
}

// changes are such ones that each give one field something.
func changes() []change {
	return []change{
		{"Dup", func(p *api.Packet) { p.Dup = true }},
		{"Id", func(p *api.Packet) { p.Id = 7 }},
		{"Topic", func(p *api.Packet) { p.Msg.Topic = "t" }},
		{"Payload", func(p *api.Packet) { p.Msg.Payload = "p" }},
		{"Qos", func(p *api.Packet) { p.Msg.Qos = 1 }},
		{"Retain", func(p *api.Packet) { p.Msg.Retain = true }},
		{"Client", func(p *api.Packet) { p.Client = "c" }},
		{"Clean", func(p *api.Packet) { p.Clean = true }},
		{"Alive", func(p *api.Packet) { p.Alive = 9 }},
		{"HasWill", func(p *api.Packet) { p.HasWill = true }},
		{"HasUser", func(p *api.Packet) { p.HasUser = true }},
		{"HasPass", func(p *api.Packet) { p.HasPass = true }},
		{"User", func(p *api.Packet) { p.User = "u" }},
		{"Pass", func(p *api.Packet) { p.Pass = "s" }},
		{"Present", func(p *api.Packet) { p.Present = true }},
		{"Codes", func(p *api.Packet) { p.Codes = []int{0} }},
		{"Subs", func(p *api.Packet) { p.Subs = []api.Sub{{Filter: "f"}} }},
	}
}

// noUse are, by a type, the fields that it has no use for, whatever else is said.
func noUse() map[int][]string {
	var all []string
	for _, c := range changes() {
		all = append(all, c.name)
	}
	without := func(names ...string) []string {
		return slices.DeleteFunc(slices.Clone(all), func(s string) bool { return slices.Contains(names, s) })
	}
	return map[int][]string{
		1:  {"Dup", "Id", "Present", "Codes", "Subs"},
		2:  without("Present", "Codes"),
		3:  without("Dup", "Id", "Topic", "Payload", "Qos", "Retain"),
		4:  without("Id"),
		5:  without("Id"),
		6:  without("Id"),
		7:  without("Id"),
		8:  without("Id", "Subs"),
		9:  without("Id", "Codes"),
		10: without("Id", "Subs"),
		11: without("Id"),
		12: all,
		13: all,
		14: all,
	}
}

// connects are Connects with each mark, with and without what stands by it.
func connects() []api.Packet {
	var all []api.Packet
	wills := []api.Packet{{}}
	for _, topic := range []string{"w", "a/\xc3\xa4"} {
		for qos := range 3 {
			wills = append(wills,
				api.Packet{HasWill: true, Msg: api.Message{Topic: topic, Qos: qos}},
				api.Packet{HasWill: true, Msg: api.Message{Topic: topic, Payload: "\x00\xfe", Qos: qos, Retain: true}})
		}
	}
	logins := []api.Packet{
		{}, {HasUser: true}, {HasUser: true, User: "\xe2\x82\xac"},
		{HasUser: true, HasPass: true}, {HasUser: true, User: "u", HasPass: true}, {HasUser: true, HasPass: true, Pass: "\xff"}, {HasUser: true, User: "u", HasPass: true, Pass: "\x00\x00s"},
	}
	for _, p := range wills {
		for _, l := range logins {
			p.HasUser, p.User, p.HasPass, p.Pass = l.HasUser, l.User, l.HasPass, l.Pass
			for k, alive := range []int{0, 1, 255, 256, 65535} {
				for _, client := range []string{"", "c", "\xf0\x9f\x98\x80/x"} {
					p.Type, p.Client, p.Clean, p.Alive = 1, client, k%2 == 0, alive
					all = append(all, p)
				}
			}
		}
	}
	return all
}

// publishes are Publishes of each quality, with and without each mark.
func publishes() []api.Packet {
	var all []api.Packet
	for _, topic := range []string{"t", "a/b", "\xf4\x8f\xbf\xbf", "+/#"} {
		for _, payload := range []string{"", "x", "\x00", "\x00\x01\x02\xff"} {
			for _, retain := range []bool{false, true} {
				all = append(all, api.Packet{Type: 3, Msg: api.Message{Topic: topic, Payload: payload, Retain: retain}})
				for _, id := range []int{1, 255, 256, 65535} {
					for qos := 1; qos < 3; qos++ {
						p := api.Packet{Type: 3, Id: id, Msg: api.Message{Topic: topic, Payload: payload, Qos: qos, Retain: retain}}
						all = append(all, p)
						p.Dup = true
						all = append(all, p)
					}
				}
			}
		}
	}
	return all
}

// others are packets of all other types.
func others() []api.Packet {
	all := []api.Packet{{Type: 2, Present: true, Codes: []int{0}}, {Type: 12}, {Type: 13}, {Type: 14}}
	for code := range 6 {
		all = append(all, api.Packet{Type: 2, Codes: []int{code}})
	}
	for _, id := range []int{1, 2, 255, 256, 257, 32768, 65534, 65535} {
		for _, kind := range []int{4, 5, 6, 7, 11} {
			all = append(all, api.Packet{Type: kind, Id: id})
		}
		for _, codes := range [][]int{{0}, {1}, {2}, {128}, {0, 0}, {128, 128}, {2, 1, 0, 128, 2}} {
			all = append(all, api.Packet{Type: 9, Id: id, Codes: codes})
		}
		for _, filters := range [][]string{{"a"}, {"#"}, {"a", "a"}, {"a/+", "\xc3\xa4", "x"}, {"\x01", "\x7f", "/", "//"}} {
			var asked, left []api.Sub
			for k, f := range filters {
				asked = append(asked, api.Sub{Filter: f, Qos: (id + k) % 3})
				left = append(left, api.Sub{Filter: f})
			}
			all = append(all, api.Packet{Type: 8, Id: id, Subs: asked}, api.Packet{Type: 10, Id: id, Subs: left})
		}
	}
	return all
}

// packets are all of these.
func packets() []api.Packet {
	all := slices.Concat(connects(), publishes(), others())
	for _, x := range knowns() {
		all = append(all, x.p)
	}
	return all
}

// The lists are what they are said to be: all types are there, and all may be.
func TestLists(t *testing.T) {
	seen := map[int]int{}
	for _, p := range packets() {
		seen[p.Type]++
		if !may(p) {
			t.Errorf("%v may not be", p)
		}
	}
	for kind := 1; kind < 15; kind++ {
		if seen[kind] == 0 {
			t.Errorf("none of the type %d", kind)
		}
	}
	if len(seen) != 14 {
		t.Errorf("%d types", len(seen))
	}
}
