/-
 ShaMath.
-/
import Derived.Test.YthcejfnngkmojaaGreatDoorPzBuf
namespace Go.Proofs.YthcejfnngkmojaaGreatDoor
open Go.RowKit
set_option maxRecDepth 20000
set_option maxHeartbeats 12800000
set_option linter.unusedVariables false
set_option linter.unusedSimpArgs false
theorem iO (a:Nat) (ha:a < 4294967296):(BitVec.ofInt 32 (a:Int)).toNat=a:=by
 rw [BitVec.ofInt_natCast,BitVec.toNat_ofNat]; exact Nat.mod_eq_of_lt (by omega)
theorem aH (a b:Nat) (ha:a < 4294967296) (hb:b < 4294967296):bits .or .u32 (a:Int) (b:Int)=((a ||| b:Nat):Int):=by
 have hx:a ||| b < 2 ^ 32:=Nat.or_lt_two_pow (by omega) (by omega)
 show IntKind.u32.wrap ((BitVec.ofInt 32 (a:Int) ||| BitVec.ofInt 32 (b:Int)).toNat:Int)=_
 rw [BitVec.toNat_or,iO a ha,iO b hb,IntKind.wrap_u32];omega
theorem dI (a b:Nat) (ha:a < 4294967296) (hb:b < 4294967296):bits .xor .u32 (a:Int) (b:Int)=((a ^^^ b:Nat):Int):=by
 have hx:a ^^^ b < 2 ^ 32:=Nat.xor_lt_two_pow (by omega) (by omega)
 show IntKind.u32.wrap ((BitVec.ofInt 32 (a:Int) ^^^ BitVec.ofInt 32 (b:Int)).toNat:Int)=_
 rw [BitVec.toNat_xor,iO a ha,iO b hb,IntKind.wrap_u32];omega
theorem gQ (a b:Nat) (ha:a < 4294967296) (hb:b < 4294967296):bits .and .u32 (a:Int) (b:Int)=((a &&& b:Nat):Int):=by
 have hx:a &&& b < 2 ^ 32:=Nat.and_lt_two_pow _ (by omega)
 show IntKind.u32.wrap ((BitVec.ofInt 32 (a:Int) &&& BitVec.ofInt 32 (b:Int)).toNat:Int)=_
 rw [BitVec.toNat_and,iO a ha,iO b hb,IntKind.wrap_u32];omega
namespace S
def rot (x n:Nat):Nat:=(x * 2 ^ (32 - n) % 4294967296) ||| (x / 2 ^ n)
theorem rot_lt (x n:Nat) (hx:x < 4294967296):rot x n < 4294967296:=by
 unfold rot;exact Nat.or_lt_two_pow (n:=32) (Nat.mod_lt _ (by decide)) (Nat.lt_of_le_of_lt (Nat.div_le_self _ _) hx)
def x3 (a b c:Nat):Nat:=a ^^^ b ^^^ c
theorem xor_lt {a b:Nat} (ha:a < 4294967296) (hb:b < 4294967296):a ^^^ b < 4294967296:=Nat.xor_lt_two_pow (n:=32) ha hb
theorem and_lt {a b:Nat} (ha:a < 4294967296):a &&& b < 4294967296:=Nat.lt_of_le_of_lt Nat.and_le_left ha
def s0 (x:Nat):Nat:=x3 (rot x 7) (rot x 18) (x / 8)
def s1 (x:Nat):Nat:=x3 (rot x 17) (rot x 19) (x / 1024)
def S0 (x:Nat):Nat:=x3 (rot x 2) (rot x 13) (rot x 22)
def S1 (x:Nat):Nat:=x3 (rot x 6) (rot x 11) (rot x 25)
def ch (e f g:Nat):Nat:=(e &&& f) ^^^ ((4294967295 ^^^ e) &&& g)
def maj (a b c:Nat):Nat:=x3 (a &&& b) (a &&& c) (b &&& c)
def add (a b:Nat):Nat:=(a + b) % 4294967296
theorem iW (a b:Nat):add a b < 4294967296:=Nat.mod_lt _ (by decide)
def word (b:List UInt8) (i:Nat):Nat:=M.val ((b.drop (4 * i)).take 4)
theorem YQ (b:List UInt8) (i:Nat):word b i < 4294967296:=by
 have h1:=M.val_lt ((b.drop (4 * i)).take 4);have h2:256 ^ ((b.drop (4 * i)).take 4).length≤256 ^ 4:=Nat.pow_le_pow_right (by decide) (by simp; omega);unfold word;have h3:(256:Nat) ^ 4=4294967296:=by decide
 omega
def wnext (w:List Nat) (i:Nat):Nat:=add (add (add (s1 (w.getD (i - 2) 0)) (w.getD (i - 7) 0)) (s0 (w.getD (i - 15) 0))) (w.getD (i - 16) 0)
def wds (b:List UInt8):Nat→List Nat
 | 0=>[]
 | n + 1=>wds b n ++ [if n < 16 then word b n else wnext (wds b n) n]
theorem wds_length (b:List UInt8) (n:Nat):(wds b n).length=n:=by
 induction n with
 | zero=>rfl
 | succ n ih=>simp [wds,ih]
theorem wds_lt (b:List UInt8) (n:Nat):∀ x∈wds b n,x < 4294967296:=by
 induction n with
 | zero=>simp [wds]
 | succ n ih =>
  intro x hx;rw [wds] at hx
  rcases List.mem_append.1 hx with h | h
  ·exact ih x h
  ·simp only [List.mem_singleton] at h
   subst h
   split
   ·exact YQ _ _
   ·exact iW _ _
structure St where
 a:Nat
 b:Nat
 c:Nat
 d:Nat
 e:Nat
 f:Nat
 g:Nat
 h:Nat
def St.ok (s:St):Prop:=s.a < 4294967296∧s.b < 4294967296∧s.c < 4294967296∧s.d < 4294967296∧s.e < 4294967296∧s.f < 4294967296∧s.g < 4294967296∧s.h < 4294967296
def t1 (s:St) (k w:Nat):Nat:=add (add (add (add s.h (S1 s.e)) (ch s.e s.f s.g)) k) w
def t2 (s:St):Nat:=add (S0 s.a) (maj s.a s.b s.c)
def step (s:St) (k w:Nat):St:=⟨add (t1 s k w) (t2 s),s.a,s.b,s.c,add s.d (t1 s k w),s.e,s.f,s.g⟩
theorem ZD (s:St) (k w:Nat) (h:s.ok):(step s k w).ok:=⟨iW _ _,h.1,h.2.1,h.2.2.1,iW _ _,h.2.2.2.2.1,h.2.2.2.2.2.1,h.2.2.2.2.2.2.1⟩
def steps (K W:List Nat) (s:St):Nat→St
 | 0=>s
 | n + 1=>step (steps K W s n) (K.getD n 0) (W.getD n 0)
theorem steps_ok (K W:List Nat) (s:St) (n:Nat) (h:s.ok):(steps K W s n).ok:=by
 induction n with
 | zero=>exact h
 | succ n ih=>exact ZD _ _ _ ih
def plus (s t:St):St:=⟨add s.a t.a,add s.b t.b,add s.c t.c,add s.d t.d,add s.e t.e,add s.f t.f,add s.g t.g,add s.h t.h⟩
theorem plus_ok (s t:St):(plus s t).ok:=⟨iW _ _,iW _ _,iW _ _,iW _ _,iW _ _,iW _ _,iW _ _,iW _ _⟩
def KS:List Nat:=[
 0x428a2f98,0x71374491,0xb5c0fbcf,0xe9b5dba5,0x3956c25b,0x59f111f1,0x923f82a4,0xab1c5ed5,
 0xd807aa98,0x12835b01,0x243185be,0x550c7dc3,0x72be5d74,0x80deb1fe,0x9bdc06a7,0xc19bf174,
 0xe49b69c1,0xefbe4786,0x0fc19dc6,0x240ca1cc,0x2de92c6f,0x4a7484aa,0x5cb0a9dc,0x76f988da,
 0x983e5152,0xa831c66d,0xb00327c8,0xbf597fc7,0xc6e00bf3,0xd5a79147,0x06ca6351,0x14292967,
 0x27b70a85,0x2e1b2138,0x4d2c6dfc,0x53380d13,0x650a7354,0x766a0abb,0x81c2c92e,0x92722c85,
 0xa2bfe8a1,0xa81a664b,0xc24b8b70,0xc76c51a3,0xd192e819,0xd6990624,0xf40e3585,0x106aa070,
 0x19a4c116,0x1e376c08,0x2748774c,0x34b0bcb5,0x391c0cb3,0x4ed8aa4a,0x5b9cca4f,0x682e6ff3,
 0x748f82ee,0x78a5636f,0x84c87814,0x8cc70208,0x90befffa,0xa4506ceb,0xbef9a3f7,0xc67178f2]
def HS:St:=⟨0x6a09e667,0xbb67ae85,0x3c6ef372,0xa54ff53a,0x510e527f,0x9b05688c,0x1f83d9ab,0x5be0cd19⟩
def turn (s:St) (b:List UInt8):St:=plus (steps KS (wds b 64) s 64) s
def blocks (p:List UInt8):Nat→St
 | 0=>HS
 | n + 1=>turn (blocks p n) ((p.drop (64 * n)).take 64)
def zeros (n:Nat):Nat:=(119 - n % 64) % 64
def tail (left:List UInt8) (size:Nat):List UInt8:=left ++ [0x80] ++ List.replicate (zeros left.length) 0 ++ M.be 8 (size * 8)
def St.list (s:St):List Nat:=[s.a,s.b,s.c,s.d,s.e,s.f,s.g,s.h]
def digest (s:St):List UInt8:=(s.list.map (M.be 4)).flatten
def padded (s:List UInt8):List UInt8:=s.take (s.length / 64 * 64) ++ tail (s.drop (s.length / 64 * 64)) s.length
def sum (s:List UInt8):List UInt8:=digest (blocks (padded s) ((padded s).length / 64))
end S
def U (l:List Nat):Array Value:=(l.map fun n=>Value.int .u32 ((n:Nat):Int)).toArray
theorem bP (l:List Nat):(U l).size=l.length:=by simp [U]
theorem aEW (l:List Nat) (j:Nat) (h:j < l.length):(U l)[j]?=some (.int .u32 ((l[j]:Nat):Int)):=by simp [U,List.getElem?_eq_getElem h]
theorem mT (l:List Nat):(U l).all (·.oneCell')=true:=by
 rw [Array.all_eq_true];intro i hi;simp [U]
 rfl
end Go.Proofs.YthcejfnngkmojaaGreatDoor
