package parse

import (
	"regexp"
	"slices"
	"strconv"
	"strings"
	"testing"

	"muntin/api"
)

// checkParse: a text that is one of this shape.
func checkParse(t *testing.T, text string, want api.Shape) {
	t.Helper()
	s, line, err := Parse(text)
	if err != api.OK || line != 0 || !slices.Equal(s.Boxes, want.Boxes) || !slices.Equal(s.Edges, want.Edges) {
		t.Errorf("Parse(%q) is %v, %v, %d, %d", head(text), s.Boxes[:min(len(s.Boxes), 9)], s.Edges[:min(len(s.Edges), 3)], line, err)
	}
}

// checkWrong: a text that is wrong at a line; nothing of it comes of that.
func checkWrong(t *testing.T, text string, line int, want api.Errno) {
	t.Helper()
	s, at, err := Parse(text)
	if at != line || err != want {
		t.Errorf("Parse(%q) is wrong at line %d by %d, not at %d by %d", head(text), at, err, line, want)
	}
	if len(s.Boxes) > 0 || len(s.Edges) > 0 {
		t.Errorf("Parse(%q) is wrong, but answers %d vertices and %d edges", head(text), len(s.Boxes), len(s.Edges))
	}
}

// checkLine: a line of an edge, as the second and as the third one, of a text of so many points.
func checkLine(t *testing.T, vertices int, line string, want api.Errno) {
	t.Helper()
	first := "shape " + strings.Repeat("p", vertices) + "\n"
	checkWrong(t, first+line+"\nend\n", 2, want)
	checkWrong(t, first+"0 N 0 LR\n"+line+"\nend\n", 3, want)
	checkWrong(t, first+line+"\nx\n", 2, want)
	checkWrong(t, first+line+"\n", 2, want)
}

func TestP8_2ParseByHand(t *testing.T) {
	checkParse(t, "shape -\nend\n", api.Shape{})
	checkParse(t, "shape p\nend\n", api.Shape{Boxes: []bool{false}})
	checkParse(t, "shape b\nend\n", api.Shape{Boxes: []bool{true}})
	checkParse(t, "shape bpb\nend\n", api.Shape{Boxes: []bool{true, false, true}})
	checkParse(t, "shape pp\n0 E 1\nend\n", api.Shape{Boxes: points(2), Edges: []api.Edge{{To: 1}}})
	checkParse(t, "shape b\n0 E 0 LLL\n0 N 0 R\n0 W 0\n0 S 0 LRLR\nend\n", api.Shape{Boxes: []bool{true}, Edges: []api.Edge{
		{Dir: api.East, Bends: "LLL"}, {Dir: api.North, Bends: "R"}, {Dir: api.West}, {Dir: api.South, Bends: "LRLR"}}})
	checkParse(t, "shape pppppppppppp\n11 S 10\n10 W 9 R\n0 S 11\nend\n", api.Shape{Boxes: points(12), Edges: []api.Edge{
		{From: 11, To: 10, Dir: api.South}, {From: 10, To: 9, Dir: api.West, Bends: "R"}, {To: 11, Dir: api.South}}})
}

func TestP8_2FirstLines(t *testing.T) {
	for _, line := range []string{"", " ", "shape", "shape ", "shape  p", " shape p", "shape p ", "shape p p", "shapep", "Shape p", "SHAPE p", "shap p", "shapes p", "p", "p shape", "end", "end p", "0 E 1",
		"shape x", "shape P", "shape B", "shape pPp", "shape pxp", "shape --", "shape p-", "shape -p", "shape - p", "shape bp-", "shape 0", "shape\tp", "shape p\r", "shape p\x00", "shape \xff", "shape p\xf0", "shape ｐ", "shape p\u0305", "shape\u00a0p", "shape \uFFFD", "\ufeffshape p"} {
		checkWrong(t, line+"\nend\n", 1, api.ErrSyntax)
		checkWrong(t, line+"\n", 1, api.ErrSyntax)
		checkWrong(t, line+"\n0 E 0\nx\n", 1, api.ErrSyntax)
	}
	checkWrong(t, "", 1, api.ErrSyntax)
	checkWrong(t, "\n", 1, api.ErrSyntax)
	checkWrong(t, "\nshape p\nend\n", 1, api.ErrSyntax)
}

// Each byte as a vertex's letter, alone and among others.
func TestP8_2OnlyTwoLettersAreVertices(t *testing.T) {
	for b := range 256 {
		one := string([]byte{byte(b)})
		switch one {
		case "p", "b":
			checkParse(t, "shape "+one+"\nend\n", api.Shape{Boxes: []bool{one == "b"}})
			checkParse(t, "shape pb"+one+"p\nend\n", api.Shape{Boxes: []bool{false, true, one == "b", false}})
		case "-":
			checkParse(t, "shape "+one+"\nend\n", api.Shape{})
			checkWrong(t, "shape pb"+one+"p\nend\n", 1, api.ErrSyntax)
		case "\n":
			checkWrong(t, "shape "+one+"\nend\n", 1, api.ErrSyntax)
			checkWrong(t, "shape pb"+one+"p\nend\n", 2, api.ErrSyntax)
		default:
			checkWrong(t, "shape "+one+"\nend\n", 1, api.ErrSyntax)
			checkWrong(t, "shape pb"+one+"p\nend\n", 1, api.ErrSyntax)
		}
	}
}

func TestP8_2HowManyVerticesThereMayBe(t *testing.T) {
	const most = api.MaxCells
	full := strings.Repeat("b", most-1) + "p"
	boxes := slices.Repeat([]bool{true}, most)
	boxes[most-1] = false
	checkParse(t, "shape "+full+"\n4095 E 0\nend\n", api.Shape{Boxes: boxes, Edges: []api.Edge{{From: most - 1}}})
	checkWrong(t, "shape "+full+"\n4096 E 0\nend\n", 2, api.ErrRange)
	for _, behind := range []string{"\nend\n", "\n", "\nx\n", "\nend\nend\n"} {
		checkWrong(t, "shape p"+full+behind, 1, api.ErrMany)
		checkWrong(t, "shape "+strings.Repeat("pb", 3*most)+behind, 1, api.ErrMany)
		checkWrong(t, "shape p"+full+"x"+behind, 1, api.ErrSyntax)
		checkWrong(t, "shape x"+full+behind, 1, api.ErrSyntax)
		checkWrong(t, "shape p"+full+" p"+behind, 1, api.ErrSyntax)
		checkWrong(t, "shape p"+full+" "+behind, 1, api.ErrSyntax)
		checkWrong(t, "shape "+strings.Repeat("-", most+1)+behind, 1, api.ErrSyntax)
	}
}

func TestP8_2LinesThatAreNoEdges(t *testing.T) {
	for _, line := range []string{"", " ", "0", "0 E", "0 E ", " 0 E 0", "0 E 0 ", "0  E 0", "0 E  0", "0 E 0  L", "0 E 0 L ", "0 E 0 L R", "0 E 0 L L L", "0 E 0 L 0",
		"x", "x y", "9 9", "a b c d e", "9 X 9 X 9", "end ", " end", "end end", "End", "END", "ends", "shape p", "0\tE\t0", "0E0", "end\x00"} {
		want := api.ErrSyntax
		checkLine(t, 1, line, want)
	}
	checkLine(t, 1, "end end end", api.ErrNumber)
	checkLine(t, 1, "end end end end", api.ErrNumber)
	checkLine(t, 1, "0\t E 0", api.ErrNumber)
	checkLine(t, 1, "0 E 0\r", api.ErrNumber)
	checkLine(t, 1, "0 E 0 L\r", api.ErrSyntax)
	checkLine(t, 1, "0 E 0 LR\x00", api.ErrSyntax)
}

// Each word of a line is asked ahead of those behind it: all lines of right and of wrong words.
func TestP8_2WordByWord(t *testing.T) {
	type word struct {
		text string
		err  api.Errno
	}
	vertices := []word{{"0", 0}, {"2", 0}, {"3", api.ErrRange}, {"9999999", api.ErrRange}, {"4096", api.ErrRange},
		{"10000000", api.ErrNumber}, {"00", api.ErrNumber}, {"01", api.ErrNumber}, {"+1", api.ErrNumber}, {"-1", api.ErrNumber}, {"-", api.ErrNumber}, {"x", api.ErrNumber}, {"1x", api.ErrNumber}, {"E", api.ErrNumber}, {"1.0", api.ErrNumber}, {"0x1", api.ErrNumber}, {"1_0", api.ErrNumber}, {"18446744073709551616", api.ErrNumber}, {"\xff", api.ErrNumber}, {"１", api.ErrNumber}}
	dirs := []word{{"E", 0}, {"N", 0}, {"W", 0}, {"S", 0}}
	for _, d := range []string{"e", "n", "w", "s", "X", "0", "1", "EE", "EN", "NW", "L", "R", "\x00", "\xc5", "Ｅ", "-", "East"} {
		dirs = append(dirs, word{d, api.ErrSyntax})
	}
	bends := []word{{"", 0}, {" L", 0}, {" RLLR", 0}}
	for _, b := range wrongBends {
		if !strings.ContainsAny(b, " \n") {
			bends = append(bends, word{" " + b, api.ErrSyntax})
		}
	}
	for _, from := range vertices {
		for _, dir := range dirs {
			for _, to := range vertices {
				for _, bent := range bends {
					text := "shape bpp\n" + from.text + " " + dir.text + " " + to.text + bent.text + "\nend\n"
					errs := []api.Errno{from.err, dir.err, to.err, bent.err}
					i := slices.IndexFunc(errs, func(e api.Errno) bool { return e != api.OK })
					if i >= 0 {
						checkWrong(t, text, 2, errs[i])
						continue
					}
					f, _ := strconv.Atoi(from.text)
					g, _ := strconv.Atoi(to.text)
					d := strings.Index("ENWS", dir.text)
					checkParse(t, text, api.Shape{Boxes: []bool{true, false, false}, Edges: []api.Edge{{From: f, To: g, Dir: d, Bends: strings.TrimSpace(bent.text)}}})
				}
			}
		}
	}
}

// No edge is right of a shape without vertices.
func TestP8_2EdgesWithoutVertices(t *testing.T) {
	checkWrong(t, "shape -\n0 E 0\nend\n", 2, api.ErrRange)
	checkWrong(t, "shape -\n- E -\nend\n", 2, api.ErrNumber)
	checkWrong(t, "shape -\nend\n0 E 0\n", 3, api.ErrSyntax)
}

func TestP8_2HowManyEdgesThereMayBe(t *testing.T) {
	const most = api.MaxCells
	full := "shape pp\n" + strings.Repeat("1 W 0\n", most)
	checkParse(t, full+"end\n", api.Shape{Boxes: points(2), Edges: slices.Repeat([]api.Edge{{From: 1, Dir: api.West}}, most)})
	for _, behind := range []string{"end\n", "", "x\n", "end\nend\n"} {
		checkWrong(t, full+"0 E 1\n"+behind, most+2, api.ErrMany)
		checkWrong(t, full+"0 E 1 L\n"+behind, most+2, api.ErrMany)
		checkWrong(t, full+"0 E 2\n"+behind, most+2, api.ErrRange)
		checkWrong(t, full+"a E 1\n"+behind, most+2, api.ErrNumber)
		checkWrong(t, full+"0 X 1\n"+behind, most+2, api.ErrSyntax)
		checkWrong(t, full+"0 E 1 X\n"+behind, most+2, api.ErrSyntax)
		checkWrong(t, full+"\n"+behind, most+2, api.ErrSyntax)
	}
	checkWrong(t, full, most+2, api.ErrSyntax)
	checkWrong(t, full+"end\n0 E 1\n", most+3, api.ErrSyntax)
}

func TestP8_2HowManyBendsThereMayBe(t *testing.T) {
	const most = api.MaxCells
	half, whole := strings.Repeat("LR", most/4), strings.Repeat("R", most)
	checkParse(t, "shape p\n0 E 0 "+whole+"\n0 S 0\nend\n", api.Shape{Boxes: points(1), Edges: []api.Edge{{Bends: whole}, {Dir: api.South}}})
	checkParse(t, "shape p\n0 E 0 "+half+"\n0 E 0\n0 E 0 "+half+"\nend\n", api.Shape{Boxes: points(1), Edges: []api.Edge{{Bends: half}, {}, {Bends: half}}})
	checkParse(t, "shape p\n"+strings.Repeat("0 E 0 L\n", most)+"end\n", api.Shape{Boxes: points(1), Edges: slices.Repeat([]api.Edge{{Bends: "L"}}, most)})
	checkWrong(t, "shape p\n0 E 0 "+whole+"L\nend\n", 2, api.ErrMany)
	checkWrong(t, "shape p\n0 E 0 "+whole+"\n0 E 0\n0 E 0 R\nend\n", 4, api.ErrMany)
	checkWrong(t, "shape p\n0 E 0 R\n0 E 0 "+whole+"\nx\n", 3, api.ErrMany)
	checkWrong(t, "shape p\n0 E 0 "+half+"\n0 E 0 "+half+"\n0 E 0 L\n", 4, api.ErrMany)
	checkWrong(t, "shape p\n0 E 0 "+half+"\n0 E 0 L"+half+"\nend\n", 3, api.ErrMany)
	checkWrong(t, "shape p\n"+strings.Repeat("0 E 0 L\n", most-1)+"0 E 0 LL\nend\n", most+1, api.ErrMany)
	checkWrong(t, "shape p\n0 E 0 "+whole+"X\nend\n", 2, api.ErrSyntax)
	checkWrong(t, "shape p\n0 E 0 X"+whole+"\nend\n", 2, api.ErrSyntax)
	checkWrong(t, "shape p\n0 E 1 "+whole+"L\nend\n", 2, api.ErrRange)
	checkWrong(t, "shape p\n0 X 0 "+whole+"L\nend\n", 2, api.ErrSyntax)
	checkWrong(t, "shape p\nx E 0 "+whole+"L\nend\n", 2, api.ErrNumber)
	checkWrong(t, "shape p\n0 E 0 "+whole+"L L\nend\n", 2, api.ErrSyntax)
}

func TestP8_2WhereTheTextEnds(t *testing.T) {
	checkWrong(t, "shape p\n", 2, api.ErrSyntax)
	checkWrong(t, "shape p\n0 E 0\n", 3, api.ErrSyntax)
	checkWrong(t, "shape p\n0 E 0\n0 E 0 L\n", 4, api.ErrSyntax)
	for _, behind := range []string{"\n", " \n", "end\n", "end\nend\n", "0 E 0\n", "shape p\nend\n", "x\n", "0 E 9\nend\n", "\n\n\n"} {
		checkWrong(t, "shape p\nend\n"+behind, 3, api.ErrSyntax)
		checkWrong(t, "shape p\n0 E 0\nend\n"+behind, 4, api.ErrSyntax)
		checkWrong(t, "shape p\n0 E 1\nend\n"+behind, 2, api.ErrRange)
	}
}

func TestP8_2TextsThatAreNoLines(t *testing.T) {
	for _, text := range []string{"shape p\nend", "x", " ", "shape p\n\r", "shape p\nend\n\r", "shape p\nend\nx"} {
		checkWrong(t, text, 0, api.ErrSyntax)
	}
	long := strings.Repeat("x", api.MaxText)
	checkWrong(t, long, 0, api.ErrSyntax)
	checkWrong(t, long[1:]+"\n", 1, api.ErrSyntax)
	checkWrong(t, long+"\n", 0, api.ErrLong)
	checkWrong(t, long+"x", 0, api.ErrLong)
	checkWrong(t, "shape p\nend\n"+long, 0, api.ErrLong)
	lines := strings.Repeat("\n", api.MaxText)
	checkWrong(t, lines, 1, api.ErrSyntax)
	checkWrong(t, lines+"\n", 0, api.ErrLong)
	checkWrong(t, "shape p\nend\n"+lines[len("shape p\nend\n"):], 3, api.ErrSyntax)
	checkWrong(t, "shape "+strings.Repeat("p", api.MaxText-7)+"\n", 1, api.ErrMany)
	checkWrong(t, "shape p\n0 E 0 "+strings.Repeat("L", api.MaxText-15)+"\n", 2, api.ErrMany)
}

var shapeText = regexp.MustCompile(`\Ashape (-|[pb]+)\n((?:[0-9]+ [ENWS] [0-9]+(?: [LR]+)?\n)*)end\n\z`)

// isText: the text's form by a regular expression, and its numbers by looking; of texts far below the limits.
func isText(text string) bool {
	parts := shapeText.FindStringSubmatch(text)
	if parts == nil {
		return false
	}
	vertices := len(strings.Trim(parts[1], "-"))
	for line := range strings.Lines(parts[2]) {
		words := strings.Fields(line)
		for _, word := range []string{words[0], words[2]} {
			if n, err := strconv.Atoi(word); err != nil || n >= vertices || strconv.Itoa(n) != word {
				return false
			}
		}
	}
	return true
}

// printed is the shape's text, by hand.
func printed(s api.Shape) string {
	text := "shape "
	for _, box := range s.Boxes {
		text += map[bool]string{false: "p", true: "b"}[box]
	}
	if len(s.Boxes) == 0 {
		text += "-"
	}
	for _, e := range s.Edges {
		text += "\n" + strconv.Itoa(e.From) + " " + "ENWS"[e.Dir:e.Dir+1] + " " + strconv.Itoa(e.To)
		if e.Bends != "" {
			text += " " + e.Bends
		}
	}
	return text + "\nend\n"
}

// checkByRule: is the text parsed just if it is one, and to a shape that has this text?
func checkByRule(t *testing.T, text string) {
	t.Helper()
	s, line, err := Parse(text)
	if !isText(text) {
		if err == api.OK || line < 0 || line > strings.Count(text, "\n")+1 {
			t.Errorf("Parse(%q) is wrong at %d by %d", text, line, err)
		}
		checkWrong(t, text, line, err)
		return
	}
	if err != api.OK || line != 0 || printed(s) != text || Check(s) != api.OK || !Equal(s, s) {
		t.Errorf("Parse(%q) is %v, %d, %d", text, s, line, err)
	}
}

var rightTexts = []string{
	"shape -\nend\n",
	"shape bpb\n0 E 1 L\n2 S 2 RRR\n1 W 0\nend\n",
	"shape ppppppppppp\n10 N 9\n0 W 10 LRL\nend\n",
}

// Single bytes of right texts changed, left out, and put in.
func TestP8_2SingleBytesChanged(t *testing.T) {
	for _, text := range rightTexts {
		if !isText(text) {
			t.Fatalf("%q is no text", text)
		}
		checkByRule(t, text)
		for i := range len(text) {
			checkByRule(t, text[:i]+text[i+1:])
			for b := range 256 {
				one := string([]byte{byte(b)})
				checkByRule(t, text[:i]+one+text[i+1:])
				checkByRule(t, text[:i]+one+text[i:])
			}
		}
	}
}

// Lines of right texts left out, doubled, and changed with each other.
func TestP8_2LinesInOtherOrders(t *testing.T) {
	for _, text := range rightTexts {
		lines := strings.SplitAfter(text, "\n")
		lines = lines[:len(lines)-1]
		for i := range lines {
			checkByRule(t, strings.Join(lines[:i], ""))
			checkByRule(t, strings.Join(slices.Concat(lines[:i], lines[i+1:]), ""))
			for j := range lines {
				other := slices.Clone(lines)
				other[i], other[j] = other[j], other[i]
				checkByRule(t, strings.Join(other, ""))
				checkByRule(t, strings.Join(slices.Insert(slices.Clone(lines), i, lines[j]), ""))
			}
		}
	}
}

// All short texts of pieces that lines are made of.
func TestP8_2AllShortTextsOfPieces(t *testing.T) {
	pieces := []string{"shape p", "shape pb", "\n", "0 E 1", " L", "end", " "}
	var each func(text string, more int)
	each = func(text string, more int) {
		checkByRule(t, text)
		if more == 0 {
			return
		}
		for _, p := range pieces {
			each(text+p, more-1)
		}
	}
	each("", 6)
	each("shape b", 4)
	each("shape pp\n", 5)
	each("shape pp\n0 E 1\n", 5)
}

// All directions, ends and bends of one edge, and what the text's first line says, come to the shape.
func TestP8_2AllEdgesOfFewVertices(t *testing.T) {
	for _, boxes := range [][]bool{{false}, {true}, {true, false}, {false, true, true}} {
		for place := range len(boxes) * len(boxes) * 4 {
			e := api.Edge{From: place / 4 % len(boxes), To: place / 4 / len(boxes), Dir: place % 4}
			for _, bends := range []string{"", "L", "R", "LL", "LR", "RL", "RR", "LRRLLLR"} {
				e.Bends = bends
				s := api.Shape{Boxes: boxes, Edges: []api.Edge{{Bends: "R"}, e}}
				checkParse(t, printed(s), s)
			}
		}
	}
}

// What Parse answers is its own: changed answers leave later ones as they were.
func TestP8_2AnswersAreNewMemory(t *testing.T) {
	text := rightTexts[1]
	a, _, _ := Parse(text)
	for i := range a.Boxes {
		a.Boxes[i] = !a.Boxes[i]
	}
	for i := range a.Edges {
		a.Edges[i] = api.Edge{From: 9, Bends: "X"}
	}
	b, _, err := Parse(text)
	if err != api.OK || printed(b) != text {
		t.Errorf("after its answer was changed, Parse answers %v, %d", b, err)
	}
}
