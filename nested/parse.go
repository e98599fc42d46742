package nested

import (
	"strings"

	"tablefinder/api"
)

// parser reads a text from a place on. The lists and records that are not closed yet are on a stack
// of its own: a file may open very many of them.
type parser struct {
	data    string
	at      int
	escapes map[byte]byte
	open    []api.Node
}

func (p *parser) skip() {
	for p.at < len(p.data) && strings.IndexByte(" \t\n\r", p.data[p.at]) >= 0 {
		p.at++
	}
}

// sign passes over a sign, and the space in front of it, if it comes next.
func (p *parser) sign(c byte) bool {
	p.skip()
	if p.at < len(p.data) && p.data[p.at] == c {
		p.at++
		return true
	}
	return false
}

// file reads a node and the rest of the file.
func (p *parser) file() (api.Node, bool) {
	for {
		n, ready, ok := p.begin()
		if !ok {
			return n, false
		}
		if !ready {
			continue
		}
		for ready && len(p.open) > 0 {
			if n, ready, ok = p.end(n); !ok {
				return n, false
			}
		}
		if ready {
			p.skip()
			return n, p.at == len(p.data)
		}
	}
}

// begin reads a node up to its first kid; it is ready if it has none.
func (p *parser) begin() (n api.Node, ready, ok bool) {
	switch {
	case p.sign('['):
		if p.sign(']') {
			return api.Node{Kind: api.NestList}, true, true
		}
		p.open = append(p.open, api.Node{Kind: api.NestList})
		return n, false, true
	case p.sign('{'):
		if p.sign('}') {
			return api.Node{Kind: api.NestRecord}, true, true
		}
		p.open = append(p.open, api.Node{Kind: api.NestRecord})
		return n, false, p.key()
	case p.sign('"'):
		s, ok := p.quoted()
		return api.Node{Kind: api.NestText, Text: s}, true, ok
	}
	n, ok = p.word()
	return n, true, ok
}

// end puts a kid into the innermost open node. That is ready, and returned, if the kid was its last one.
func (p *parser) end(kid api.Node) (n api.Node, ready, ok bool) {
	top := &p.open[len(p.open)-1]
	top.Kids = append(top.Kids, kid)
	record := top.Kind == api.NestRecord
	if p.sign(',') {
		return n, false, !record || p.key()
	}
	n = *top
	p.open = p.open[:len(p.open)-1]
	if record {
		return n, true, p.sign('}')
	}
	return n, true, p.sign(']')
}

// key reads a key and its colon.
func (p *parser) key() bool {
	if !p.sign('"') {
		return false
	}
	key, ok := p.quoted()
	top := &p.open[len(p.open)-1]
	top.Keys = append(top.Keys, key)
	return ok && p.sign(':')
}

// quoted reads a text behind its first quote.
func (p *parser) quoted() (string, bool) {
	var b strings.Builder
	for p.at < len(p.data) {
		c := p.data[p.at]
		p.at++
		switch {
		case c == '"':
			return b.String(), true
		case c < ' ':
			return "", false
		case c == '\\':
			if p.at == len(p.data) || p.escapes[p.data[p.at]] == 0 {
				return "", false
			}
			c = p.escapes[p.data[p.at]]
			p.at++
		}
		b.WriteByte(c)
	}
	return "", false
}

// word reads null, a boolean or a number.
func (p *parser) word() (api.Node, bool) {
	p.skip()
	rest := p.data[p.at:]
	for _, w := range []string{"null", "true", "false"} {
		if !strings.HasPrefix(rest, w) {
			continue
		}
		p.at += len(w)
		if w == "null" {
			return api.Node{Kind: api.NestNull}, true
		}
		return api.Node{Kind: api.NestBool, Text: w}, true
	}
	n := number(rest)
	p.at += n
	return api.Node{Kind: api.NestNumber, Text: rest[:n]}, n > 0
}

// number returns the length of the number with which a text begins, 0 if there is none.
func number(s string) int {
	begin := 0
	if s != "" && (s[0] == '+' || s[0] == '-') {
		begin = 1
	}
	end := begin + digits(s[begin:])
	if end == begin {
		return 0
	}
	if end < len(s) && s[end] == '.' {
		if n := digits(s[end+1:]); n > 0 {
			return end + 1 + n
		}
	}
	return end
}

// digits returns how many digits a text begins with.
func digits(s string) int {
	for i := range len(s) {
		if s[i] < '0' || s[i] > '9' {
			return i
		}
	}
	return len(s)
}
