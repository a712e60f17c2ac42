package print_test

import (
	"strings"
	"testing"

	"rewind/api"
	"rewind/print"
	"rewind/syntax"
)

func parsed(t *testing.T, text string) api.Tree {
	t.Helper()
	p, at, e := syntax.Parse(text)
	if e != api.OK {
		t.Fatalf("P5.2: Parse(%.2000q): %d, %d, want a program", text, at, e)
	}
	return p
}

func wantText(t *testing.T, text, want string) {
	t.Helper()
	if got := print.Print(parsed(t, text)); got != want {
		t.Errorf("P5.1: Print of %.2000q:\n%s, want\n%s", text, got, want)
	}
}

// wantBody: a function's statements have these lines.
func wantBody(t *testing.T, body string, lines ...string) {
	t.Helper()
	wantText(t, "func f(){"+body+"}", "func f() {\n"+strings.Join(append(lines, "}"), "\n")+"\n")
}

func TestSimpleStatements(t *testing.T) {
	wantBody(t, "var x=1;", "  var x = 1;")
	wantBody(t, "var x=a+b;", "  var x = a + b;")
	wantBody(t, "var a[3];", "  var a[3];")
	wantBody(t, "var a [ 999999999999999999 ] ;", "  var a[999999999999999999];")
	wantBody(t, "x=1;", "  x = 1;")
	wantBody(t, "x=(y==z);", "  x = y == z;")
	wantBody(t, "a[0]=1;", "  a[0] = 1;")
	wantBody(t, "a[(x+1)]=(y*2);", "  a[x + 1] = y * 2;")
	wantBody(t, "break;", "  break;")
	wantBody(t, "continue;", "  continue;")
	wantBody(t, "return;", "  return;")
	wantBody(t, "return x;", "  return x;")
	wantBody(t, "return(x);", "  return x;")
	wantBody(t, "return-x;", "  return -x;")
	wantBody(t, "print read;", "  print read;")
	wantBody(t, "print(1);", "  print 1;")
	wantBody(t, "g();", "  g();")
	wantBody(t, "g(1,x);", "  g(1, x);")
	wantBody(t, "g((1),(x+y),(z[0]));", "  g(1, x + y, z[0]);")
}

func TestStatementsAreLines(t *testing.T) {
	wantBody(t, "")
	wantBody(t, "x=1;y=2;  # both\n\n\n z=3;", "  x = 1;", "  y = 2;", "  z = 3;")
}

func TestWhile(t *testing.T) {
	wantBody(t, "while x{}", "  while x {", "  }")
	wantBody(t, "while(x<1){x=x+1;print x;}y=1;", "  while x < 1 {", "    x = x + 1;", "    print x;", "  }", "  y = 1;")
	wantBody(t, "while x{while y{while z{break;}continue;}}", "  while x {", "    while y {", "      while z {", "        break;", "      }", "      continue;", "    }", "  }")
}

func TestIf(t *testing.T) {
	wantBody(t, "if x{}", "  if x {", "  }")
	wantBody(t, "if(!x){y=1;z=2;}y=3;", "  if !x {", "    y = 1;", "    z = 2;", "  }", "  y = 3;")
	wantBody(t, "if x{if y{break;}}", "  if x {", "    if y {", "      break;", "    }", "  }")
}

func TestElse(t *testing.T) {
	wantBody(t, "if x{}else{}", "  if x {", "  }")
	wantBody(t, "if x{y=1;}else{}y=2;", "  if x {", "    y = 1;", "  }", "  y = 2;")
	wantBody(t, "if x{}else{y=1;}", "  if x {", "  } else {", "    y = 1;", "  }")
	wantBody(t, "if x{y=1;}else{y=2;y=3;}y=4;", "  if x {", "    y = 1;", "  } else {", "    y = 2;", "    y = 3;", "  }", "  y = 4;")
	wantBody(t, "if x{}else{while y{}}", "  if x {", "  } else {", "    while y {", "    }", "  }")
}

func TestElseIf(t *testing.T) {
	lines := []string{"  if x {", "    break;", "  } else if y == z {", "    continue;", "  } else {", "    return;", "  }", "  x = 1;"}
	wantBody(t, "if x{break;}else if y==z{continue;}else{return;}x=1;", lines...)
	wantBody(t, "if x{break;}else{if(y==z){continue;}else{return;}}x=1;", lines...)
	wantBody(t, "if x{}else if y{}", "  if x {", "  } else if y {", "  }")
	wantBody(t, "if x{}else{if y{}else{}}", "  if x {", "  } else if y {", "  }")
	wantBody(t, "if a{}else if b{}else if c{}else if d{}", "  if a {", "  } else if b {", "  } else if c {", "  } else if d {", "  }")
	wantBody(t, "while w{if x{}else if y{while z{}}else{break;}}", "  while w {", "    if x {", "    } else if y {", "      while z {", "      }", "    } else {", "      break;", "    }", "  }")
}

func TestIfThatIsNotAloneBehindElse(t *testing.T) {
	wantBody(t, "if x{}else{if y{}z=1;}", "  if x {", "  } else {", "    if y {", "    }", "    z = 1;", "  }")
	wantBody(t, "if x{}else{z=1;if y{}}", "  if x {", "  } else {", "    z = 1;", "    if y {", "    }", "  }")
	wantBody(t, "if x{}else{if y{}if z{}else if w{}}", "  if x {", "  } else {", "    if y {", "    }", "    if z {", "    } else if w {", "    }", "  }")
}

func TestFunctions(t *testing.T) {
	wantText(t, "func main(){}", "func main() {\n}\n")
	wantText(t, "func f()int{return 1;}", "func f() int {\n  return 1;\n}\n")
	wantText(t, "func f(a){}", "func f(a) {\n}\n")
	wantText(t, "func f ( a , b )int{}", "func f(a, b) int {\n}\n")
	wantText(t, "func f(a,b,c){}", "func f(a, b, c) {\n}\n")
	wantText(t, "func main(){f(1);}func f(a){print a;}\n\nfunc g()int{return 0;}", "func main() {\n  f(1);\n}\nfunc f(a) {\n  print a;\n}\nfunc g() int {\n  return 0;\n}\n")
	if s := print.Print(api.Tree{}); s != "" {
		t.Errorf("P5.1: Print of no functions: %q", s)
	}
}

func TestExample(t *testing.T) {
	wantBody(t, "print (1+2)*-x;", "  print (1 + 2) * -x;")
}
