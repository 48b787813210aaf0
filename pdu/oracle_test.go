package pdu_test

import (
	"encoding/hex"
	"fmt"
	"regexp"
	"slices"
	"strconv"
	"strings"
	"testing"

	"bascule/api"
)

// shape is what the chapter's table says of a function: the least and the greatest Count and number of Values, the greatest value, whether Count is as many as Values, and which other fields are named.
type shape struct {
	leastCount, mostCount   int
	leastValues, mostValues int
	top                     int
	asMany, to, masks       bool
}

var shapes = map[int]shape{
	1:  {leastCount: 1, mostCount: 2000},
	2:  {leastCount: 1, mostCount: 2000},
	3:  {leastCount: 1, mostCount: 125},
	4:  {leastCount: 1, mostCount: 125},
	5:  {leastValues: 1, mostValues: 1, top: 1},
	6:  {leastValues: 1, mostValues: 1, top: 65535},
	15: {leastCount: 1, mostCount: 1968, leastValues: 1, mostValues: 1968, top: 1, asMany: true},
	16: {leastCount: 1, mostCount: 123, leastValues: 1, mostValues: 123, top: 65535, asMany: true},
	22: {masks: true},
	23: {leastCount: 1, mostCount: 125, leastValues: 1, mostValues: 121, top: 65535, to: true},
}

// functions are those of the table.
var functions = []int{1, 2, 3, 4, 5, 6, 15, 16, 22, 23}

func within(n, least, most int) bool { return least <= n && n <= most }

// may says by the table whether a request may be.
func may(r api.Request) bool {
	s, known := shapes[r.Func]
	if !known || !within(r.Count, s.leastCount, s.mostCount) || !within(len(r.Values), s.leastValues, s.mostValues) || s.asMany && r.Count != len(r.Values) {
		return false
	}
	if slices.ContainsFunc(r.Values, func(v int) bool { return !within(v, 0, s.top) }) {
		return false
	}
	if !s.to && r.To != 0 || !s.masks && (r.And != 0 || r.Or != 0) {
		return false
	}
	written := 0
	if s.to {
		written = len(r.Values)
	}
	return within(r.Addr, 0, 65536-max(1, r.Count)) && within(r.To, 0, 65536-max(1, written)) && within(r.And, 0, 65535) && within(r.Or, 0, 65535)
}

// mayBeAnswered says whether a may be an answer to a request that may be.
func mayBeAnswered(r api.Request, a api.Answer) bool {
	if a.Code != 0 {
		return within(a.Code, 1, 255) && len(a.Values) == 0
	}
	many, top := 0, 0
	if strings.Contains(" 1 2 3 4 23 ", fmt.Sprintf(" %d ", r.Func)) {
		many, top = r.Count, 65535
	}
	if r.Func <= 2 {
		top = 1
	}
	return len(a.Values) == many && !slices.ContainsFunc(a.Values, func(v int) bool { return !within(v, 0, top) })
}

// hexWords are words as hex digits.
func hexWords(words ...int) string {
	s := ""
	for _, n := range words {
		s += fmt.Sprintf("%04x", n)
	}
	return s
}

// hexBits are bits as hex digits, eight of them a byte, the first one the lowest; bits above are 0.
func hexBits(bits []int) string {
	s := ""
	for eight := range slices.Chunk(bits, 8) {
		n := 0
		for k, bit := range eight {
			n += bit << k
		}
		s += fmt.Sprintf("%02x", n)
	}
	return s
}

// behindCount are hex digits behind a byte that says how many bytes they are.
func behindCount(digits string) string { return fmt.Sprintf("%02x", len(digits)/2) + digits }

// fromHex are the bytes of hex digits.
func fromHex(t *testing.T, digits string) []byte {
	t.Helper()
	b, err := hex.DecodeString(strings.ReplaceAll(digits, " ", ""))
	if err != nil {
		t.Fatal(err)
	}
	return b
}

// wantBytes are the bytes of a request that may be, by the table.
func wantBytes(t *testing.T, r api.Request) []byte {
	t.Helper()
	s := fmt.Sprintf("%02x", r.Func) + hexWords(r.Addr)
	switch r.Func {
	case 1, 2, 3, 4:
		s += hexWords(r.Count)
	case 5:
		s += []string{"0000", "ff00"}[r.Values[0]]
	case 6:
		s += hexWords(r.Values[0])
	case 15:
		s += hexWords(r.Count) + behindCount(hexBits(r.Values))
	case 16:
		s += hexWords(r.Count) + behindCount(hexWords(r.Values...))
	case 22:
		s += hexWords(r.And, r.Or)
	case 23:
		s += hexWords(r.Count, r.To, len(r.Values)) + behindCount(hexWords(r.Values...))
	}
	return fromHex(t, s)
}

// wantAnswerBytes are the bytes of an answer that may be to a request that may be.
func wantAnswerBytes(t *testing.T, r api.Request, a api.Answer) []byte {
	t.Helper()
	if a.Code != 0 {
		return fromHex(t, fmt.Sprintf("%02x%02x", 128+r.Func, a.Code))
	}
	s := fmt.Sprintf("%02x", r.Func)
	switch r.Func {
	case 1, 2:
		return fromHex(t, s+behindCount(hexBits(a.Values)))
	case 3, 4, 23:
		return fromHex(t, s+behindCount(hexWords(a.Values...)))
	case 15, 16:
		return fromHex(t, s+hexWords(r.Addr, r.Count))
	}
	return wantBytes(t, r)
}

// forms are what the bytes of the functions look like as hex digits.
var forms = map[int]*regexp.Regexp{
	1:  regexp.MustCompile(`^01(....)(....)$`),
	2:  regexp.MustCompile(`^02(....)(....)$`),
	3:  regexp.MustCompile(`^03(....)(....)$`),
	4:  regexp.MustCompile(`^04(....)(....)$`),
	5:  regexp.MustCompile(`^05(....)(ff00|0000)$`),
	6:  regexp.MustCompile(`^06(....)(....)$`),
	15: regexp.MustCompile(`^0f(....)(....)(..)((?:..)*)$`),
	16: regexp.MustCompile(`^10(....)(....)(..)((?:....)*)$`),
	22: regexp.MustCompile(`^16(....)(....)(....)$`),
	23: regexp.MustCompile(`^17(....)(....)(....)(....)(..)((?:....)*)$`),
}

// number is what hex digits say.
func number(digits string) int {
	n, _ := strconv.ParseUint(digits, 16, 64)
	return int(n)
}

// wordsOf are hex digits as words.
func wordsOf(digits string) []int {
	var words []int
	for ; digits != ""; digits = digits[4:] {
		words = append(words, number(digits[:4]))
	}
	return words
}

// bitsOf are the first n bits of hex digits; ok, if these are just as many bytes as they need, and no bit above is 1.
func bitsOf(digits string, n int) (bits []int, ok bool) {
	for ; digits != ""; digits = digits[2:] {
		for k := range 8 {
			bits = append(bits, number(digits[:2])>>k&1)
		}
	}
	if n > len(bits) || len(bits)-n > 7 || slices.Contains(bits[n:], 1) {
		return nil, false
	}
	return bits[:n], true
}

// wantParse is the request that the bytes are, if they are one.
func wantParse(b []byte) (api.Request, bool) {
	none := api.Request{}
	if len(b) == 0 || forms[int(b[0])] == nil {
		return none, false
	}
	p := forms[int(b[0])].FindStringSubmatch(hex.EncodeToString(b))
	if p == nil {
		return none, false
	}
	r := api.Request{Func: int(b[0]), Addr: number(p[1])}
	switch r.Func {
	case 5:
		r.Values = []int{len(strings.Trim(p[2], "0")) / 2}
	case 6:
		r.Values = wordsOf(p[2])
	case 15:
		bits, ok := bitsOf(p[4], number(p[2]))
		if !ok || len(p[4]) != 2*number(p[3]) {
			return none, false
		}
		r.Count, r.Values = len(bits), bits
	case 16:
		r.Count, r.Values = number(p[2]), wordsOf(p[4])
		if len(p[4]) != 2*number(p[3]) {
			return none, false
		}
	case 22:
		r.And, r.Or = number(p[2]), number(p[3])
	case 23:
		r.Count, r.To, r.Values = number(p[2]), number(p[3]), wordsOf(p[6])
		if len(p[6]) != 2*number(p[5]) || len(r.Values) != number(p[4]) {
			return none, false
		}
	default:
		r.Count = number(p[2])
	}
	if !may(r) {
		return none, false
	}
	return r, true
}

// wantAnswer is the answer to a request that may be that the bytes are, if they are one.
func wantAnswer(r api.Request, b []byte) (api.Answer, bool) {
	s, none := hex.EncodeToString(b), api.Answer{}
	if strings.HasPrefix(s, fmt.Sprintf("%02x", 128+r.Func)) {
		return api.Answer{Code: number(s[2:])}, len(b) == 2 && b[1] != 0
	}
	switch r.Func {
	case 1, 2:
		if len(b) < 3 || int(b[0]) != r.Func || int(b[1]) != len(b)-2 {
			return none, false
		}
		bits, ok := bitsOf(s[4:], r.Count)
		return api.Answer{Values: bits}, ok
	case 3, 4, 23:
		if !strings.HasPrefix(s, fmt.Sprintf("%02x%02x", r.Func, 2*r.Count)) || len(b) != 2+2*r.Count {
			return none, false
		}
		return api.Answer{Values: wordsOf(s[4:])}, true
	case 15, 16:
		return none, s == fmt.Sprintf("%02x%04x%04x", r.Func, r.Addr, r.Count)
	case 5:
		return none, s == fmt.Sprintf("05%04x%04x", r.Addr, []int{0, 0xff00}[r.Values[0]])
	case 6:
		return none, s == fmt.Sprintf("06%04x%04x", r.Addr, r.Values[0])
	}
	return none, s == fmt.Sprintf("16%04x%04x%04x", r.Addr, r.And, r.Or)
}

// sameRequest says whether two requests are the same, a list without elements being nil or not.
func sameRequest(a, b api.Request) bool {
	return a.Func == b.Func && a.Addr == b.Addr && a.Count == b.Count && slices.Equal(a.Values, b.Values) && a.To == b.To && a.And == b.And && a.Or == b.Or
}

// sameAnswer says whether two answers are the same.
func sameAnswer(a, b api.Answer) bool { return a.Code == b.Code && slices.Equal(a.Values, b.Values) }
