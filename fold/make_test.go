package fold_test

import (
	"slices"
	"strings"
	"testing"

	"virama/api"
	"virama/fold"
	"virama/trie"
)

// rightData are lines of Data that may stand together, in any order; some are passed over.
func rightData() []string {
	return []string{
		dataLine("0041", "", "0061", ""),
		dataLine("0061", "0041", "", "0041"),
		dataLine("0062", "0042", "", ""),
		dataLine("0063", "", "", "0043"),
		dataLine("0064", "", "", ""),
		dataLine("01C4", "", "01C6", "01C5"),
		dataLine("01c5", "01c4", "01c6", "01c5"),
		dataLine("01C6", "01C4", "01c6", "01C5"),
		dataLine("00DF", "1E9E", "00DF", ""),
		dataLine("0130", "", "0069", ""),
		dataLine("03A3..03A3", "03A3", "0003C3", ""),
		dataLine("0000", "10FFFF", "0000", ""),
		dataLine("10FFFF", "", "000000", "D7FF"),
		dataLine("00D7FF", "E000", "FFFF", ""),
		dataLine("E000", "00FFFF", "D7FF", "010000"),
		dataLine("0ABCDE", "0abcde", "00abCD", ""),
		"0065 ; x;\t;;;;;;;;;;\t0045 ; 0065;\r# no more\n",
		"0066;;;;;;;;;;;;;;;;;;;;\n",
		"0067;;;;;;;;;;;;0047;;\n",
		dataLine("D800", "x", "x", "x"),
		dataLine("D800", "0041", "0042", "0043"),
		"DFFF;x\n",
		"DC00;0041;0042;0043\n",
		"0041..0042;x\n",
		"4E00..9FFF;0041;0042;0043;;;;;;;;x;x;x\n",
		"D7FF..E000;x\n",
		"# 0041;0041;0041;0041\n",
		"\n",
	}
}

// wrongData are lines of Data each of which is wrong.
func wrongData() []string {
	l := []string{
		"0041;A\n",
		"0041;;;;;;;;;;;;;\n",
		"0041;;;;;;;;;;;;x;\n",
		"D800;;;;;;;;;;;;;;;;;;;;;\n",
		"0041\n",
		"041;;;;;;;;;;;;;;\n",
		"0042..0041;;;;;;;;;;;;;;\n",
		"110000;;;;;;;;;;;;;;\n",
		"0044..0044;\n",
	}
	for _, odd := range []string{"41", "x", "-", "0041 0042", "0041..0042", "D800", "DFFF", "00dbff", "110000", "FFFFFF", "0000041", "U+0041", "0x41", "004G", "-0041", "é000", "00\t41", "0 0 4 1"} {
		l = append(l, dataLine("0045", odd, "", ""), dataLine("0045", "", odd, ""), dataLine("0045", "", "", odd), dataLine("0045", "0041", "0041", odd), dataLine("0045", odd, odd, "0041"))
	}
	return l
}

// rightSpecial are lines of Special that may stand together, in any order; some are passed over.
func rightSpecial() []string {
	return []string{
		"00DF; 00DF; 0053 0073; 0053 0053; # sharp s\n",
		"0130; 0069 0307; 0130; 0130;\n",
		"00AD;;;\n",
		"0041;;0041;x\n",
		"0041;;0041;x;\n",
		"0061;0061 0062 0063;;\n",
		"0062; 0061   0062  0063 ;\t10FFFF 000000 D7FF;110000;;x;x\n",
		"01C5..01C5;0000;e000 ffff\t;;;0041\n",
		"01C6;01C6;01C6;0041 0042 0043 0044\n",
		"10FFFF;10FFFF;10FFFF;x; ;Final_Sigma\n",
		"0000;0001;0002;0003\n",
		"0044;0045;0046;0047;;\n",
		"03A3; 03C2; 03A3; 03A3; Final_Sigma;\n",
		"03A3;x;x;x;x\n",
		"0130;0131;0132;0133;0134\n",
		"03A3;;;; x ;;;;;;\n",
		"0041..0042;0061\n",
		"D800;0061\n",
		"DFFF;x;x;x\n",
		"D7FF..E000;x;x;x\n",
		"#\n",
		"\n",
	}
}

// wrongSpecial are lines of Special each of which is wrong.
func wrongSpecial() []string {
	l := []string{
		"0045;0065\n",
		"0045;0065;0045\n",
		"0045;\n",
		"0045;;\n",
		"0045;x;x\n",
		"0045\n",
		"x;;;;x\n",
		"0046..0045;;;;x\n",
		"110000;;;;x\n",
		"0045;;;;x;;;;;;;;;;;;;;;;;\n",
	}
	for _, odd := range []string{"65", "x", "0041,0042", "0041 x", "x 0041", "0041 42", "0041\t0042", "D800", "0041 DFFF", "0041 0042 dc00", "110000", "0041 FFFFFF", "0041 0042 0043 0044", "0041 0041 0041 0041 0041", "0000041", "0041..0042", "0041 é000"} {
		l = append(l, "0045;"+odd+";;\n", "0045;;"+odd+";\n", "0045;0041;"+odd+";0041;\n", "0045;"+odd+";0041;0041;;x\n", "0045;"+odd+";"+odd+";\n")
	}
	return l
}

// coreLines are lines of Core, right ones, and wrong ones.
func coreLines() []string {
	return []string{
		"0041..005A;Cased\n",
		"0061..007A ; Cased # small\n",
		"00B7;Case_Ignorable\n",
		"0300..036F;Case_Ignorable\n",
		"0061..0070;Case_Ignorable\n",
		"0041..10FFFF;Lowercase\n",
		"0041;cased\n",
		"0043;Case_ignorable\n",
		"0044;x;Cased\n",
		"0046;;Case_Ignorable\n",
		"0047;Cased;Case_Ignorable\n",
		"0048..0049;No\n",
		"0000;Cased\n",
		"10FFFF;Cased\n",
		"D800..DFFF;Case_Ignorable\n",
		"0100..01FF;No;Cased\n",
		"# 0500;Cased\n",
		"\n",
		"0041\n",
		"41;Cased\n",
		"0042..0041;Cased\n",
		"110000;Cased\n",
	}
}

// picked are lines, k of them, no one twice.
func picked(seed, k int, lines []string) []string {
	l := slices.Clone(lines)
	for i, n := range mixed(seed, len(l), len(l)) {
		l[i], l[n] = l[n], l[i]
	}
	return l[:min(k, len(l))]
}

// put are lines, and one more of others, somewhere.
func put(seed int, lines, others []string) []string {
	l := mixed(seed, 2, 1<<20)
	return slices.Insert(slices.Clone(lines), l[0]%(len(lines)+1), others[l[1]%len(others)])
}

// The document's examples, and others by hand.
func TestMakeByHand(t *testing.T) {
	c, file, line, e := fold.Make("0041;A;Lu;0;L;;;;;N;;;;0061;", "00DF;00DF;0053 0073;0053 0053;", "0041;Cased\n0042;Case_Ignorable")
	if file != 0 || line != 0 || e != api.OK {
		t.Fatal(file, line, e)
	}
	for _, x := range []struct {
		r            int
		small, title []int
		cased, in    bool
	}{
		{0x41, []int{0x61}, []int{0x41}, true, false},
		{0xdf, []int{0xdf}, []int{0x53, 0x73}, false, false},
		{0x42, []int{0x42}, []int{0x42}, false, true},
		{0x61, []int{0x61}, []int{0x61}, false, false},
	} {
		small, e := fold.Lower(c, x.r)
		title, f := fold.Title(c, x.r)
		cased, in, g := fold.Kind(c, x.r)
		if !slices.Equal(small, x.small) || !slices.Equal(title, x.title) || cased != x.cased || in != x.in || e+f+g != 0 {
			t.Errorf("%x: %x, %x, %v, %v", x.r, small, title, cased, in)
		}
	}
	if len(c.Lower) != 2 || len(c.Title) != 1 || len(c.Cased.Blocks) != 2 || len(c.Ignorable.Blocks) != 2 {
		t.Error(c.Lower, c.Title)
	}
	// Nothing is said, and that is right.
	c, file, line, e = fold.Make("", "", "")
	if file != 0 || line != 0 || e != api.OK || len(c.Lower)+len(c.Title) != 0 || len(c.Cased.Blocks) != 1 || len(c.Ignorable.Blocks) != 1 || !fold.Right(c) {
		t.Error(file, line, e)
	}
}

// P16.1: what is wrong, by hand; the first file is told, and in it the first record, and of it the first error.
func TestFaultsByHand(t *testing.T) {
	none := strings.Repeat(";", 14)
	// Field 11 is what comes next.
	eleven := strings.Repeat(";", 12)
	for i, x := range []struct {
		data, special, core string
		fault
	}{
		{"0041;A", "x", "x", fault{1, 1, api.ErrField}},
		{"\n\n0041;;;;;;;;;;;;;", "x", "x", fault{1, 3, api.ErrField}},
		{"0041" + none, "0041;;;\n\nx", "x", fault{2, 3, api.ErrHex}},
		{"0041" + none, "0041;;;\n", "x\n", fault{3, 1, api.ErrHex}},
		{"0041" + eleven + "x;;", "", "", fault{1, 1, api.ErrHex}},
		{"0041" + eleven + ";x;", "", "", fault{1, 1, api.ErrHex}},
		{"0041" + eleven + ";;x", "", "", fault{1, 1, api.ErrHex}},
		{"0041;x;x;x;x;x;x;x;x;x;x;x;;;;x;x;x;x;x;x", "", "", fault{}},
		{"0041" + eleven + "x;", "", "", fault{1, 1, api.ErrField}},
		{"0041" + none + "\n0041;x", "", "", fault{1, 2, api.ErrField}},
		{"0041" + none + "\n0041" + eleven + ";x;", "", "", fault{1, 2, api.ErrHex}},
		{"0041" + none + "\n0042" + none + "\n0041" + none, "", "", fault{1, 3, api.ErrLap}},
		{"0041" + none + "\n0041..0041" + none, "", "", fault{1, 2, api.ErrLap}},
		{"0041" + none + "\n0041..0042" + none + "\n0040..0041;x", "", "", fault{}},
		{"0041" + none + "\n0041" + none + "\nx", "", "", fault{1, 3, api.ErrHex}},
		{"0041" + none + "\n0041" + none + "\n0042;x", "", "", fault{1, 2, api.ErrLap}},
		{"0042;x\n0041" + none + "\n0041" + none, "", "", fault{1, 1, api.ErrField}},
		{"D800" + none + "\nD800" + none, "", "", fault{}},
		{"0041;;;;;;;;;;;;;;;;;;;;;", "", "", fault{1, 1, api.ErrField}},
		{"", "0041;0061", "", fault{2, 1, api.ErrField}},
		{"", "0041;x;x", "", fault{2, 1, api.ErrField}},
		{"", "0041;x;x;", "", fault{2, 1, api.ErrHex}},
		{"", "0041;0061;0041", "", fault{2, 1, api.ErrField}},
		{"", "0041;0061;0041;", "", fault{}},
		{"", "0041;0061;0041;x", "", fault{}},
		{"", "0041;x;x;x;x", "", fault{}},
		{"", "0041;x;x;x; ;x", "", fault{2, 1, api.ErrHex}},
		{"", "0041;0061;0041;\n0041;0061;0041;;", "", fault{2, 2, api.ErrLap}},
		{"", "0041;0061;0041;;x\n0041;0061;0041;", "", fault{}},
		{"", "0041;0061;0041;\n0041;0061;0041;;x", "", fault{}},
		{"", "0041;0061;0041;\n0041;0061", "", fault{2, 2, api.ErrField}},
		{"", "0041;0061;0041;\n0041;0061;x;", "", fault{2, 2, api.ErrHex}},
		{"0041" + none, "0041;0061;0041;", "", fault{}},
		{"", "", "0041;Cased\n\n0041;Cased", fault{3, 3, api.ErrLap}},
		{"", "", "0041;Case_Ignorable\n0041;Case_Ignorable\n0042;Cased\n0042;Cased", fault{3, 4, api.ErrLap}},
		{"", "", "0041;Case_Ignorable\n0041;Case_Ignorable\n0042;Cased", fault{3, 2, api.ErrLap}},
		{"", "", "0041;Cased\n0041;Case_Ignorable\n0041;Lowercase\n0041;Lowercase", fault{}},
		{"", "", "0041;No\n0041;Cased", fault{3, 2, api.ErrLap}},
		{"", "", "0041;Case_Ignorable\n0040..0041;No", fault{3, 2, api.ErrLap}},
		{"", "", "0041", fault{3, 1, api.ErrField}},
	} {
		c, file, line, e := fold.Make(x.data, x.special, x.core)
		if x.fault != (fault{file, line, e}) || isNothing(c) != (e != api.OK) {
			t.Error(i, file, line, e, "wanted", x.fault)
		}
		known{}.wantMade(t, x.data, x.special, x.core)
	}
}

// P16.1: each line alone, be it right or wrong, ahead of a wrong file and behind a right one.
func TestMakeLines(t *testing.T) {
	k := known{}
	for _, s := range slices.Concat(rightData(), wrongData()) {
		k.wantMade(t, s, "", "")
		k.wantMade(t, "\n#\n"+s, "x", "x")
	}
	for _, s := range rightData() {
		if _, f := k.wantMade(t, s, "", ""); f.e != api.OK {
			t.Errorf("%q: %v", s, f)
		}
	}
	for _, s := range wrongData() {
		if _, f := k.wantMade(t, s, "", ""); f.file != 1 || f.line != 1 {
			t.Errorf("%q: %v", s, f)
		}
	}
	for _, s := range slices.Concat(rightSpecial(), wrongSpecial()) {
		k.wantMade(t, "", s, "")
		k.wantMade(t, dataLine("0045", "", "0065", ""), "\n#\n"+s, "x")
	}
	for _, s := range rightSpecial() {
		if _, f := k.wantMade(t, "", s, ""); f.e != api.OK {
			t.Errorf("%q: %v", s, f)
		}
	}
	for _, s := range wrongSpecial() {
		if _, f := k.wantMade(t, "", s, ""); f.file != 2 || f.line != 1 {
			t.Errorf("%q: %v", s, f)
		}
	}
	for _, s := range coreLines() {
		k.wantMade(t, "", "", s)
		k.wantMade(t, "", "", "\n#\n"+s)
	}
}

// P16.1: all of two lines, one behind the other.
func TestMakePairs(t *testing.T) {
	k := known{}
	data := append(rightData(), wrongData()[:3]...)
	for i, a := range data {
		for j, b := range data {
			// What is right costs time, and is much the same; what laps is met all the same.
			if i == j || (i+j)%4 == 0 {
				k.wantMade(t, a+b, "", "")
			}
			k.wantMade(t, a+b, "x", "")
		}
	}
	special := append(rightSpecial(), wrongSpecial()[:3]...)
	for i, a := range special {
		for j, b := range special {
			if i == j || (i+j)%4 == 0 {
				k.wantMade(t, "", a+b, "")
			}
			k.wantMade(t, "", a+b, "x")
		}
	}
	for _, a := range coreLines() {
		for _, b := range coreLines() {
			k.wantMade(t, "", "", a+b)
		}
	}
}

// P16.1, P16.3: mixed files, right ones or with one wrong line, or one that laps, in one of them.
func TestMakeMixed(t *testing.T) {
	k := known{}
	cores := []string{"", "0041..005A;Cased\n0061..007A;Cased\n00B7;Case_Ignorable\n"}
	for seed := range 1200 {
		data := picked(seed, seed%17, rightData())
		special := picked(seed*3+1, seed/5%13, rightSpecial())
		core := cores[seed%2]
		switch seed % 8 {
		case 0:
			data = put(seed, data, wrongData())
		case 1:
			special = put(seed, special, wrongSpecial())
		case 2:
			data = put(seed, data, rightData())
		case 3:
			special = put(seed, special, rightSpecial())
		case 4:
			core = strings.Join(picked(seed, seed%5, coreLines()), "")
		}
		c, f := k.wantMade(t, strings.Join(data, ""), strings.Join(special, ""), core)
		if f.e != api.OK {
			continue
		}
		for _, x := range slices.Concat(c.Lower, c.Title) {
			if seed%10 < 2 {
				wantScalar(t, c, x.From)
			}
		}
	}
}

// P16.3: what Special says counts, whatever Data says, and in whichever order; else Data counts.
func TestSpecialCounts(t *testing.T) {
	k := known{}
	for _, data := range []string{"", dataLine("0041", "0042", "0043", "0044"), dataLine("0041", "0042", "", ""), dataLine("0041", "", "0043", ""), dataLine("0041", "", "", "")} {
		for _, x := range []struct {
			special      string
			small, title []int
		}{
			{"0041;0051;0052;0053\n", []int{0x51}, []int{0x52}},
			{"0041;;;\n", nil, nil},
			{"0041;0041;0041;0041\n", []int{0x41}, []int{0x41}},
			{"0041;0051 0052 0053;;\n", []int{0x51, 0x52, 0x53}, nil},
			{"0041;;0051 0052;\n", nil, []int{0x51, 0x52}},
			{"0041;0061;0062;0063;x\n0041;0051;;;\n0041;0061;0062;0063;x\n", []int{0x51}, nil},
		} {
			c, f := k.wantMade(t, data, x.special, "")
			small, e := fold.Lower(c, 0x41)
			title, g := fold.Title(c, 0x41)
			if f.e != api.OK || !slices.Equal(small, x.small) || e != api.OK || !slices.Equal(title, x.title) || g != api.OK {
				t.Errorf("%q, %q: %x, %x", data, x.special, small, title)
			}
		}
		// What is passed over says nothing.
		for _, over := range []string{"", "0041;0051;0052;0053;x\n", "0041..0042;0051;0052;0053\n", "0040..0041;x\n", "0042;0051;0052;0053\n"} {
			c, _ := k.wantMade(t, data, over, "")
			d, _ := k.wantMade(t, data, "", "")
			small, _ := fold.Lower(c, 0x41)
			want, _ := fold.Lower(d, 0x41)
			title, _ := fold.Title(c, 0x41)
			wanted, _ := fold.Title(d, 0x41)
			if !slices.Equal(small, want) || !slices.Equal(title, wanted) {
				t.Errorf("%q, %q: %x, %x", data, over, small, title)
			}
		}
	}
}

// P16.1: as many records and bytes as there may be, and one more.
func TestMakeMuch(t *testing.T) {
	k := known{}
	var data, special, core strings.Builder
	for i := range 300 {
		// Ranks that do not rise, so that mappings are sorted.
		r := 0x1000 + i*7%300
		data.WriteString(code(r) + strings.Repeat(";", 13) + code(r+0x1000) + ";" + code(r+0x2000) + "\n")
		special.WriteString(code(0x800+i*11%300) + ";0041 0042 0043;" + code(0x10ffff-i) + ";\n")
		core.WriteString(code(0x100+i*5) + ";" + []string{"Cased", "Case_Ignorable"}[i%2] + "\n")
	}
	c, f := k.wantMade(t, data.String(), special.String(), core.String())
	if f.e != api.OK || len(c.Lower) != 600 || len(c.Title) != 600 {
		t.Fatal(f, len(c.Lower), len(c.Title))
	}
	for _, x := range c.Lower {
		wantScalar(t, c, x.From)
	}
	for r := 0xf0; r < 0x100+1520; r += 3 {
		wantScalar(t, c, r)
	}
	more := ";;;;;;;;;;;;;;\n"
	for i, x := range []struct {
		data, special, core string
		fault
	}{
		{data.String() + "0041" + more, special.String(), core.String(), fault{1, 301, api.ErrMany}},
		{data.String() + "D800" + more, "", "", fault{1, 301, api.ErrMany}},
		{data.String(), special.String() + "\n0041;;;;x", core.String(), fault{2, 302, api.ErrMany}},
		{data.String(), special.String(), core.String() + "0041;x", fault{3, 301, api.ErrMany}},
		{strings.Repeat("#", 20000), strings.Repeat(" ", 20000), strings.Repeat("\n", 20000), fault{}},
		{strings.Repeat("#", 20001), "x", "x", fault{1, 0, api.ErrFile}},
		{"", strings.Repeat(" ", 20001), "x", fault{2, 0, api.ErrFile}},
		{"", "", strings.Repeat("\n", 20001), fault{3, 0, api.ErrFile}},
		{strings.Repeat("x\n", 20001), "x", "x", fault{1, 0, api.ErrFile}},
	} {
		if _, f := k.wantMade(t, x.data, x.special, x.core); f != x.fault {
			t.Error(i, f, "wanted", x.fault)
		}
	}
}

// P16.1: the tries are least, and say what the file says, of each number.
func TestMakeKinds(t *testing.T) {
	c, _ := known{}.wantMade(t, "", "", "0041..005A;Cased\n0100..0FFF;Cased;x\n0061..007A;Cased\n0070..0270;Case_Ignorable\nFFFF..10000;Case_Ignorable\n0000..10FFFF;Any\n10FFFF;Cased\nD000..DFFF;Cased\n0040;No")
	for r := range 0x110000 {
		cased := r >= 0x41 && r <= 0x5a || r >= 0x100 && r <= 0xfff || r >= 0x61 && r <= 0x7a || r == 0x10ffff || r >= 0xd000 && r <= 0xdfff
		ignorable := r >= 0x70 && r <= 0x270 || r == 0xffff || r == 0x10000
		if saysOther(c.Cased, r) != cased || saysOther(c.Ignorable, r) != ignorable {
			t.Fatalf("%x", r)
		}
		if isScalar(r) && (r < 0x300 || r%997 == 0 || r > 0x10fffd || r > 0xfffd && r < 0x10002) {
			wantScalar(t, c, r)
		}
	}
	for _, x := range []api.Trie{c.Cased, c.Ignorable} {
		if least, e := trie.Least(x); e != api.OK || !trie.Same(least, x) {
			t.Error(len(x.Blocks))
		}
	}
}
