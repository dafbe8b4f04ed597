package eval_test

import (
	"slices"
	"strconv"
	"testing"

	"arras/api"
	"arras/batch"
	"arras/bound"
	"arras/cipher"
	"arras/eval"
	"arras/keys"
	"arras/nat"
	"arras/tape"
)

// Which numbers a tape tells: such as look like chance, all at one end, all at the other, and at both ends mixed.
const (
	byChance = iota
	allUp
	allDown
	bothEnds
	endModes
)

// client has keys, and hides texts.
type client struct {
	p      api.Params
	x      *mixer
	mode   int
	secret []int64
	public api.Public
	keys   api.Keys
	v      *eval.Eval
	fits   int // how often a text was told right for sure
}

// pick is one of a word of chance, one end, and the other end.
func (c *client) pick(up, down uint64) uint64 {
	switch c.mode {
	case allUp:
		return up
	case allDown:
		return down
	case bothEnds:
		return []uint64{up, down}[c.x.next()%2]
	}
	return c.x.next()
}

// errors are draws of N errors.
func (c *client) errors() []uint64 {
	list := make([]uint64, c.p.N)
	for i := range list {
		up := uint64(1)<<c.p.Width - 1
		list[i] = c.pick(up, up<<c.p.Width)
	}
	return list
}

// pair are draws of what hides an element: as many numbers as an element has, then errors.
func (c *client) pair() []uint64 {
	var list []uint64
	for range c.p.N * len(c.p.Q) {
		// No prime passes by a word that is so far below 2^64.
		list = append(list, c.x.next()>>1)
	}
	return append(list, c.errors()...)
}

// switches are draws of so many switches.
func (c *client) switches(count int) *tape.Tape {
	var list []uint64
	for range count * len(c.p.Q) {
		list = append(list, c.pair()...)
	}
	return tape.New(list)
}

// veil is draws of what hides a text: ternary numbers, then errors twice.
func (c *client) veil() *tape.Tape {
	list := make([]uint64, c.p.N)
	for i := range list {
		list[i] = c.pick(1, 2)
		if list[i]&3 == 3 {
			list[i]--
		}
	}
	return tape.New(slices.Concat(list, c.errors(), c.errors()))
}

func clientOf(t *testing.T, p api.Params, secret []int64, mode int, steps ...int) *client {
	t.Helper()
	c := &client{p: p, x: &mixer{state: p.T}, mode: mode, secret: secret, v: evalOf(t, p)}
	var err, errKeys api.Errno
	c.public, err = keys.Public(p, secret, tape.New(c.pair()))
	c.keys, errKeys = keys.All(p, secret, steps, c.switches(1+len(steps)))
	if err != api.OK || errKeys != api.OK {
		t.Fatal(name(p), err, errKeys)
	}
	return c
}

// held is a ciphertext, the text that it should hold, and how much noise it may have.
type held struct {
	c     api.Cipher
	text  []uint64
	bound api.Nat
	err   api.Errno
}

func (h held) level() int { return len(h.c.C[0].R) - 1 }

func heldOf(c api.Cipher, err api.Errno, text []uint64, bound api.Nat, errBound api.Errno) held {
	return held{c: c, text: text, bound: bound, err: max(err, errBound)}
}

func (c *client) hide(text []uint64) held {
	one, err := cipher.Hide(c.p, c.public, text, c.veil())
	b, errBound := bound.Fresh(c.p)
	return heldOf(one, err, text, b, errBound)
}

func (c *client) add(a, b held) held {
	one, err := c.v.Add(a.c, b.c)
	most, errBound := bound.Add(c.p, a.level(), a.bound, b.bound)
	return heldOf(one, err, c.sum(a.text, b.text), most, errBound)
}

func (c *client) addText(a held, text []uint64) held {
	one, err := c.v.AddText(a.c, text)
	most, errBound := bound.AddText(c.p, a.level(), a.bound)
	return heldOf(one, err, c.sum(a.text, text), most, errBound)
}

func (c *client) mulText(a held, text []uint64) held {
	one, err := c.v.MulText(a.c, text)
	most, errBound := bound.MulText(c.p, a.level(), a.bound, text)
	return heldOf(one, err, c.product(a.text, text), most, errBound)
}

func (c *client) mul(a, b held) held {
	one, err := c.v.Mul(a.c, b.c)
	most, errBound := bound.Mul(c.p, a.level(), a.bound, b.bound)
	return heldOf(one, err, c.product(a.text, b.text), most, errBound)
}

func (c *client) relin(a held) held {
	one, err := c.v.Relin(a.c, c.keys.Relin)
	most, errBound := bound.Switch(c.p, a.level(), a.bound)
	return heldOf(one, err, a.text, most, errBound)
}

// turn turns by the step of one of the keys, which may be told as another one that moves slots alike.
func (c *client) turn(a held, key, around int) held {
	step := c.keys.Turns[key].Step + around*c.p.N/2
	one, err := c.v.Turn(a.c, step, c.keys.Turns[key].Key)
	most, errBound := bound.Switch(c.p, a.level(), a.bound)
	return heldOf(one, err, c.turned(a.text, step), most, errBound)
}

func (c *client) lower(a held) held {
	one, err := c.v.Lower(a.c)
	most, errBound := bound.Lower(c.p, a.level(), len(a.c.C), a.bound)
	return heldOf(one, err, a.text, most, errBound)
}

// What is reckoned with texts: numbers modulo T, polynomials modulo X^N + 1.

func (c *client) sum(a, b []uint64) []uint64 {
	sum := make([]uint64, len(a))
	for i, v := range a {
		sum[i] = (v + b[i]) % c.p.T
	}
	return sum
}

func (c *client) product(a, b []uint64) []uint64 {
	n := len(a)
	// Both are below 2^30, so a product is below 2^60; what goes beyond X^N is taken off.
	out, off := make([]uint64, n), make([]uint64, n)
	for i, v := range a {
		for j, w := range b {
			if v == 0 || w == 0 {
				continue
			}
			if i+j < n {
				out[i+j] = (out[i+j] + v*w) % c.p.T
			} else {
				off[i+j-n] = (off[i+j-n] + v*w) % c.p.T
			}
		}
	}
	for i, v := range off {
		out[i] = (out[i] + c.p.T - v) % c.p.T
	}
	return out
}

func (c *client) turned(text []uint64, step int) []uint64 {
	power, out := powerOf(c.p.N, step), make([]uint64, c.p.N)
	for i, v := range text {
		at := i * power % (2 * c.p.N)
		if at >= c.p.N {
			v = (c.p.T - v) % c.p.T
		}
		out[at%c.p.N] = v
	}
	return out
}

// holds asks that there is no more noise than may be, and that the text is told, where so much noise lets it.
func (c *client) holds(t *testing.T, what string, h held) held {
	t.Helper()
	what += " of " + strconv.Itoa(c.mode) + " " + name(c.p)
	if h.err != api.OK {
		t.Fatal(what, h.err)
	}
	noise, err := cipher.Noise(c.p, c.secret, h.c, h.text)
	if err != api.OK || nat.Cmp(noise, h.bound) > 0 {
		t.Error("noise", what, h.level(), noise, h.bound, err)
	}
	if !bound.Fits(c.p, h.level(), h.bound) {
		return h
	}
	c.fits++
	if text, err := cipher.Tell(c.p, c.secret, h.c); err != api.OK || !slices.Equal(text, h.text) {
		t.Error("told", what, h.level(), err)
	}
	return h
}

// secrets are such as N numbers may be: of chance, all alike, and a power of X.
func secrets(n int) [][]int64 {
	last := make([]int64, n)
	last[n-1] = -1
	return [][]int64{(&mixer{state: uint64(n)}).secret(n), slices.Repeat([]int64{1}, n), slices.Repeat([]int64{-1}, n), last, make([]int64, n)}
}

// atLevel goes through all calls with two ciphertexts of two parts of one level, and text.
func (c *client) atLevel(t *testing.T, a, b held, text []uint64) {
	t.Helper()
	sum := c.holds(t, "Add", c.add(a, b))
	c.holds(t, "Add of a sum", c.add(sum, sum))
	c.holds(t, "AddText", c.addText(a, text))
	c.holds(t, "MulText", c.mulText(b, text))
	three := c.holds(t, "Mul", c.mul(a, b))
	c.holds(t, "Mul of a sum", c.mul(sum, a))
	c.holds(t, "Add of three parts", c.add(three, c.mul(b, b)))
	c.holds(t, "Add of two and three parts", c.add(a, three))
	c.holds(t, "Add of three and two parts", c.add(three, b))
	c.holds(t, "AddText of three parts", c.addText(three, text))
	c.holds(t, "MulText of three parts", c.mulText(three, text))
	two := c.holds(t, "Relin", c.relin(three))
	turned := c.holds(t, "Turn", c.turn(a, 0, 0))
	turned = c.holds(t, "Turn of a turned one", c.turn(turned, 1, -3))
	c.holds(t, "Turn there and back", c.turn(turned, 0, 5))
	c.holds(t, "Turn of a product", c.turn(two, 1, -1))
	if a.level() > 0 {
		c.holds(t, "Lower", c.lower(a))
		c.holds(t, "Lower of three parts", c.lower(three))
		c.holds(t, "Lower of what was turned", c.lower(turned))
		c.holds(t, "Relin of what was lowered", c.relin(c.lower(three)))
	}
}

// downAll goes through all calls at all levels with what is hidden afresh and lowered.
func (c *client) downAll(t *testing.T, first, second, text []uint64) {
	t.Helper()
	a, b := c.holds(t, "Hide", c.hide(first)), c.holds(t, "Hide", c.hide(second))
	for range c.p.Q {
		c.atLevel(t, a, b, text)
		if a.level() > 0 {
			a, b = c.holds(t, "Lower", c.lower(a)), c.holds(t, "Lower", c.lower(b))
		}
	}
}

// telling are parameters in which there is room for noise, and such as have little.
func telling() []api.Params {
	return []api.Params{
		example(),
		paramsOf(8, 17, 1, 193, 97),
		paramsOf(8, 97, 1, primesBelow(8, 1<<45, 3)...),
		paramsOf(8, 17, api.MaxError, primesBelow(8, primeEnd, api.MaxPrimes)...),
		paramsOf(8, primesBelow(8, api.MaxT, 1)[0], 3, primesBelow(8, primeEnd, 4)...),
		paramsOf(16, 97, 2, append(primesBelow(16, 1<<40, 2), primesBelow(16, 1<<20, 2)...)...),
		paramsOf(32, 193, 5, leastPrimes(32, 9)[1:]...),
		paramsOf(64, 257, 2, primesBelow(64, primeEnd, 2)...),
	}
}

func TestWhatIsReckonedIsTold(t *testing.T) {
	for number, p := range telling() {
		t.Run(strconv.Itoa(number), func(t *testing.T) {
			t.Parallel()
			fits := 0
			for i, secret := range secrets(p.N) {
				for mode := range endModes {
					at := i + mode
					if len(p.Q) == api.MaxPrimes && at%3 != 1 {
						continue
					}
					c := clientOf(t, p, secret, mode, 1, p.N/2-1)
					list := texts(p)
					c.downAll(t, list[at%len(list)], list[(at+1+i)%len(list)], list[(2*at+3)%len(list)])
					fits += c.fits
				}
			}
			// Of the first ones the modulus lets little be told.
			if number > 1 && fits < 200 {
				t.Error("too little is told for sure", name(p), fits)
			}
		})
	}
}

// Of all two texts, those at both ends of what may be and mixed ones.
func TestWhatIsReckonedIsToldOfAllTexts(t *testing.T) {
	t.Parallel()
	p := paramsOf(8, 97, 2, primesBelow(8, primeEnd, 2)...)
	list := texts(p)
	for mode := range endModes {
		c := clientOf(t, p, secrets(8)[mode], mode, 1, 3)
		for i, first := range list {
			for j, second := range list[i:] {
				c.downAll(t, first, second, list[(i+2*j)%len(list)])
			}
		}
	}
}

func TestWhatIsReckonedIsToldOfManyCoefficients(t *testing.T) {
	t.Parallel()
	for _, p := range great() {
		c := clientOf(t, p, secrets(p.N)[0], bothEnds, 1, p.N/2-1)
		text := texts(p)[0]
		a, b := c.holds(t, "Hide", c.hide(text)), c.holds(t, "Hide", c.hide(texts(p)[3]))
		c.holds(t, "MulText", c.mulText(c.add(a, b), texts(p)[6]))
		two := c.holds(t, "Relin", c.relin(c.mul(a, b)))
		turned := c.holds(t, "Turn", c.turn(two, 1, 0))
		if a.level() > 0 {
			c.holds(t, "Lower", c.lower(turned))
		}
	}
}

// Squares of squares, down to the lowest level.
func TestChains(t *testing.T) {
	p := paramsOf(8, 17, 2, primesBelow(8, primeEnd, api.MaxPrimes)...)
	for mode := range endModes {
		c := clientOf(t, p, secrets(8)[mode], mode, 1, 2, 3)
		a := c.holds(t, "Hide", c.hide(texts(p)[0]))
		for a.level() > 0 {
			three := c.holds(t, "Mul", c.mul(a, a))
			three = c.holds(t, "Add", c.add(c.mulText(three, texts(p)[6]), a))
			two := c.holds(t, "Relin", c.relin(three))
			for key := range 3 {
				two = c.holds(t, "Turn", c.turn(two, key, 0))
			}
			a = c.holds(t, "Lower", c.lower(c.addText(two, texts(p)[1])))
		}
		if c.fits < 40 {
			t.Error("too little is told for sure", mode, c.fits)
		}
	}
}

// Rows in slots: sums and products slot by slot, and turns by any step.
func TestRows(t *testing.T) {
	p := paramsOf(16, 193, 3, primesBelow(16, 1<<45, 4)...)
	c := clientOf(t, p, secrets(16)[0], byChance, 1, 2, 3, 4, 5, 6, 7)
	slots, _ := batch.New(p)
	first, second := []int{1, -2, 3, 4, -5, 6, 7, 8}, []int{5, 0, -1, 2, 3, -4, 1, 9}
	pack := func(row []int) held {
		text, err := slots.Pack(row)
		if err != api.OK {
			t.Fatal(err)
		}
		return c.hide(text)
	}
	row := func(h held) []int {
		text, err := cipher.Tell(p, c.secret, h.c)
		told, errRow := slots.Unpack(text)
		if h.err != api.OK || err != api.OK || errRow != api.OK {
			t.Fatal(h.err, err, errRow)
		}
		return told
	}
	a, b := pack(first), pack(second)
	if got := row(c.add(a, b)); !slices.Equal(got, []int{6, -2, 2, 6, -2, 2, 8, 17}) {
		t.Error("Add", got)
	}
	product := c.lower(c.relin(c.mul(a, b)))
	want := []int{5, 0, -3, 8, -15, -24, 7, 72}
	if got := row(product); !slices.Equal(got, want) {
		t.Error("Mul", got)
	}
	for key := range 7 {
		for _, around := range []int{0, 1, -1, 1000, -1000} {
			moved := slices.Concat(want[key+1:], want[:key+1])
			if got := row(c.turn(product, key, around)); !slices.Equal(got, moved) {
				t.Error("Turn", key+1, around, got)
			}
		}
	}
}
