import Derived.Test.YtknikcihgijmlaaGreatDoorM01
import Derived.Laws.AppendOwn
import Derived.Deep.AppendSrc
import Derived.WalkMore
import Derived.Lib.AppendZeros
import Derived.OrdersHeld
import Derived.RegionTactic
import Derived.KernelRfl
namespace Go.Proofs.YtknikcihgijmlaaGreatDoor
open Go.RowKit
set_option maxRecDepth 20000
set_option maxHeartbeats 12800000
set_option linter.unusedVariables false
set_option linter.unusedSimpArgs false
theorem gA {n k:Int}(h0:0<=n)(k1:1<=k)(k8:k<=8)(h:n.toNat<256 ^ k.toNat):cZ n k=true:=by
 obtain⟨m,rfl⟩:=Int.eq_ofNat_of_zero_le h0;exact(gL m k).2 ⟨k1,k8,by simpa using h⟩
theorem wB (b:Bool):cZ (qK b) 1=true/\0<=qK b:=by cases b <;> decide
theorem wX {id pa ob ow ri ba de ex cu:Int}(h:capOk id pa ob ow ri ba de ex cu=true) :
  (cZ pa 3=true/\0<=pa)/\(cZ ob 3=true/\0<=ob)/\(cZ ow 3=true/\0<=ow)/\(cZ ri 2=true/\0<=ri)/\(cZ ba 4=true/\0<=ba)/\(cZ de 1=true/\0<=de)/\(cZ ex 4=true/\0<=ex)/\(cZ cu 3=true/\0<=cu):=by
 unfold capOk at h;simp only[Bool.and_eq_true,fD,jH] at h;obtain⟨⟨⟨⟨⟨⟨⟨⟨⟨⟨h0,h1⟩,h2⟩,h3⟩,h4⟩,h5⟩,h6⟩,h7⟩,h8⟩,h9⟩,h10⟩:=h
 refine⟨⟨gA (by omega) (by decide) (by decide) ?_,by omega⟩,⟨gA (by omega) (by decide) (by decide) ?_,by omega⟩,⟨gA (by omega) (by decide) (by decide) ?_,by omega⟩,⟨gA (by omega) (by decide) (by decide) ?_,by omega⟩,⟨gA (by omega) (by decide) (by decide) ?_,by omega⟩,⟨gA (by omega) (by decide) (by decide) ?_,by omega⟩,⟨gA (by omega) (by decide) (by decide) ?_,by omega⟩,⟨gA (by omega) (by decide) (by decide) ?_,by omega⟩⟩
 ·show _<16777216;omega
 ·show _<16777216;omega
 ·show _<16777216;omega
 ·show _<65536;omega
 ·show _<4294967296;omega
 ·show _<256;omega
 ·show _<4294967296;omega
 ·show _<16777216;omega
theorem DP {id pa ob ow ri ba de ex cu:Int}(rv:Bool)(rest:ByteArray)(h:capOk id pa ob ow ri ba de ex cu=true)(s:ByteArray)(hs:qH pa ob ow ri ba de ex cu rv++rest=s) :
  vO s=pa/\vN s=ob/\vM s=ow/\vL s=ri/\vK s=ba/\vJ s=de/\vI s=ex/\vH s=cu/\vG s=qK rv:=by
 obtain⟨p0,p1,p2,p3,p4,p5,p6,p7⟩:=wX h;have p8:=wB rv;have q0:=fun rest=>oD (n:=pa) (k:=3) rest p0.2 p0.1
 have q1:=fun rest=>oD (n:=ob) (k:=3) rest p1.2 p1.1
 have q2:=fun rest=>oD (n:=ow) (k:=3) rest p2.2 p2.1
 have q3:=fun rest=>oD (n:=ri) (k:=2) rest p3.2 p3.1
 have q4:=fun rest=>oD (n:=ba) (k:=4) rest p4.2 p4.1
 have q5:=fun rest=>oD (n:=de) (k:=1) rest p5.2 p5.1
 have q6:=fun rest=>oD (n:=ex) (k:=4) rest p6.2 p6.1
 have q7:=fun rest=>oD (n:=cu) (k:=3) rest p7.2 p7.1
 have q8:=fun rest=>oD (n:=qK rv) (k:=1) rest p8.2 p8.1
 have e:s=Str (aS pa 3)++(Str (aS ob 3)++(Str (aS ow 3)++(Str (aS ri 2)++(Str (aS ba 4)++(Str (aS de 1)++(Str (aS ex 4)++(Str (aS cu 3)++(Str (aS (qK rv) 1)++rest)))))))):=by
  rw[<-hs];unfold qH;simp only[ByteArray.append_assoc]
 unfold vO vN vM vL vK vJ vI vH vG;rw[e,(q0 _).2,(q1 _).2,(q2 _).2,(q3 _).2,(q4 _).2,(q5 _).2,(q6 _).2,(q7 _).2];exact⟨(q0 _).1,(q1 _).1,(q2 _).1,(q3 _).1,(q4 _).1,(q5 _).1,(q6 _).1,(q7 _).1,(q8 _).1⟩
theorem TL {id pa ob ow ri ba de ex cu:Int}(rv:Bool)(h:capOk id pa ob ow ri ba de ex cu=true):(qH pa ob ow ri ba de ex cu rv).size=24:=by
 obtain⟨p0,p1,p2,p3,p4,p5,p6,p7⟩:=wX h;have p8:=wB rv;have:=dE p0.1;have:=dE p1.1;have:=dE p2.1;have:=dE p3.1;have:=dE p4.1;have:=dE p5.1;have:=dE p6.1;have:=dE p7.1;have:=dE p8.1;unfold qH;simp only[ByteArray.size_append];omega
theorem zD (b:Bool):(qK b==1)=b:=by cases b <;> decide
theorem yS {id pa ob ow ri ba de ex cu:Int}(rv:Bool)(h:capOk id pa ob ow ri ba de ex cu=true):sQ id (qH pa ob ow ri ba de ex cu rv)=true:=by
 obtain⟨e0,e1,e2,e3,e4,e5,e6,e7,e8⟩:=DP rv ⟨#[]⟩ h (qH pa ob ow ri ba de ex cu rv) (iD _);unfold sQ TI;rw[e0,e1,e2,e3,e4,e5,e6,e7,e8,zD,h];simp
theorem rK {id li ha:Int}{name:ByteArray}(h:dS id name li ha=true):(cZ li 2=true/\0<=li)/\(cZ ha 2=true/\0<=ha)/\name.size<=32/\cY name=true:=by
 unfold dS at h;simp only[Bool.and_eq_true,fD] at h;obtain⟨⟨⟨⟨h0,h1⟩,h2⟩,h3⟩,h4⟩:=h;refine⟨⟨gA (by omega) (by decide) (by decide) ?_,by omega⟩,⟨gA (by omega) (by decide) (by decide) ?_,by omega⟩,(nO name h1).1,h1⟩
 ·show _<65536;omega
 ·show _<65536;omega
theorem tI {id li ha:Int}{name:ByteArray}(rest:ByteArray)(h:dS id name li ha=true)(s:ByteArray)(hs:gW name li ha++rest=s):nJ s=li/\nI s=ha/\nH s=name:=by
 obtain⟨p0,p1,p2,_⟩:=rK h;have q0:=fun rest=>oD (n:=li) (k:=2) rest p0.2 p0.1
 have q1:=fun rest=>oD (n:=ha) (k:=2) rest p1.2 p1.1
 have e:s=Str (aS li 2)++(Str (aS ha 2)++(cX name++rest)):=by
  rw[<-hs];unfold gW;simp only[ByteArray.append_assoc]
 unfold nJ nI nH;rw[e,(q0 _).2,(q1 _).2];exact⟨(q0 _).1,(q1 _).1,(KS name rest (by omega)).1⟩
theorem BE {id li ha:Int}{name:ByteArray}(h:dS id name li ha=true):(gW name li ha).size=5+name.size/\name.size<=32:=by
 obtain⟨p0,p1,p2,_⟩:=rK h;have:=dE p0.1;have:=dE p1.1;have:=mH name (by omega);unfold gW;simp only[ByteArray.size_append];omega
theorem tJ {id li ha:Int}{name:ByteArray}(h:dS id name li ha=true):mG id (gW name li ha)=true:=by
 obtain⟨e0,e1,e2⟩:=tI ⟨#[]⟩ h (gW name li ha) (iD _);unfold mG qP;rw[e0,e1,e2,h];simp
theorem yT (id:Int)(pa:Int)(ob:Int)(ow:Int)(ri:Int)(ba:Int)(de:Int)(ex:Int)(cu:Int)(rv:Bool)(w:World)(hv:capOk id pa ob ow ri ba de ex cu=true) :
  () 235 #[.agg #[id,pa,ob,ow,ri,ba,de,ex,cu,rv]] w fun e w'=>e=.returned (.bool true)/\Below w.heap.size w w':=by
 unfold capOk at hv;simp only[Bool.and_eq_true] at hv;obtain⟨⟨⟨⟨⟨⟨⟨⟨⟨⟨h0,h1⟩,h2⟩,h3⟩,h4⟩,h5⟩,h6⟩,h7⟩,h8⟩,h9⟩,h10⟩:=hv;have H0:=Hd h0;have H1:=Hd h1;have H3:=Hd h3;have H4:=Hd h4;have H5:=Hd h5;have H6:=Hd h6;have H7:=Hd h7;have H9:=Hd h9;have H10:=Hd h10;clear h0 h1 h3 h4 h5 h6 h7 h9 h10;go_enter Tryz.func235,Tryz.ntmps235
 go_wp2_with (first|(go_at_call 236;refine(LX _ _ _ (by first|exact H0.o|exact H3.o|exact H4.o)).mono ?_;rintro e w9 ⟨rfl,rfl⟩)|(go_at_call 237;refine(qL _ _ _ _ _ (by first|exact H1.o|exact H6.o|exact H7.o|exact H9.o|exact H10.o)).mono ?_;rintro e w9 ⟨rfl,rfl⟩)|(go_at_call 16;refine(xK _ _ _ _ (by first|exact H5.o)).mono ?_;rintro e w9 ⟨rfl,rfl⟩))
 go_ret;exact⟨rfl,Br.alloc (Nat.le_refl _) _⟩
theorem tK (id:Int)(name:ByteArray)(li:Int)(ha:Int)(w:World)(hs:name.size<=140737488351232)(hv:dS id name li ha=true) :
  () 238 #[.agg #[id,name,li,ha]] w fun e w'=>e=.returned (.bool true)/\Below w.heap.size w w':=by
 unfold dS at hv;simp only[Bool.and_eq_true] at hv;obtain⟨⟨⟨⟨h0,h1⟩,h2⟩,h3⟩,h4⟩:=hv;have H0:=Hd h0;have H3:=Hd h3;have H4:=Hd h4;clear h0 h3 h4;go_enter Tryz.func238,Tryz.ntmps238;go_wp2_with fail;refine(tU _ _ hs).mono ?_;rintro e w1 ⟨rfl,b1⟩;have hsz:w.heap.size<(w.alloc (.cells #[id,name,li,ha] 145)).heap.size:=by simp
 have c0:w1.cell? ⟨w.heap.size,0,none⟩=some (.int .i64 id):=by rw[b1.cell hsz];simp
 have c1:w1.cell? ⟨w.heap.size,1,none⟩=some (.string name):=by rw[b1.cell hsz];simp
 have c2:w1.cell? ⟨w.heap.size,2,none⟩=some (.int .i64 li):=by rw[b1.cell hsz];simp
 have c3:w1.cell? ⟨w.heap.size,3,none⟩=some (.int .i64 ha):=by rw[b1.cell hsz];simp
 have bb:Below w.heap.size w w1:=(Br.alloc (Nat.le_refl _) _).trans (b1.mono (Nat.le_of_lt hsz));clear b1 hsz
 go_wp2_with (first|(go_at_call 236;refine(LX _ _ _ (by first|exact H0.o)).mono ?_;rintro e w9 ⟨rfl,rfl⟩)|(go_at_call 237;refine(qL _ _ _ _ _ (by first|exact H3.o|exact H4.o)).mono ?_;rintro e w9 ⟨rfl,rfl⟩))
 go_ret;exact⟨rfl,bb⟩
theorem tE (id:Int)(pa:Int)(ob:Int)(ow:Int)(ri:Int)(ba:Int)(de:Int)(ex:Int)(cu:Int)(rv:Bool)(w:World)(hv:capOk id pa ob ow ri ba de ex cu=true) :
  () 108 #[.iface 136 (.agg #[id,pa,ob,ow,ri,ba,de,ex,cu,rv])] w fun e w'=>e=.returned (.tuple #[.string (qH pa ob ow ri ba de ex cu rv),(0:Int)])/\Below w.heap.size w w':=by
 have H:=Hd hv;have hm:=GY id pa ob ow ri ba de ex cu rv;have hw:=fun w0=>aDC id pa ob ow ri ba de ex cu rv w0 hv
 have HW:Hid (∀ w0,() 125 #[.iface 136 (.agg #[id,pa,ob,ow,ri,ba,de,ex,cu,rv])] w0 fun e w'=>e=.returned (.string (qH pa ob ow ri ba de ex cu rv))/\Below w0.heap.size w0 w'):=Hd hw;clear hv hw;go_enter Tryz.func108,Tryz.ntmps108;go_wp2_with fail;refine(yT _ _ _ _ _ _ _ _ _ _ _ H.o).mono ?_;rintro e w1 ⟨rfl,b1⟩;go_wp2_with fail;refine(HW _).mono ?_;rintro e w2 ⟨rfl,b2⟩;go_wp2_with fail;go_ret2;exact⟨rfl,chain b1 b2⟩
theorem pP (id:Int)(name:ByteArray)(li:Int)(ha:Int)(w:World)(hs:name.size<=140737488351232)(hv:dS id name li ha=true) :
  () 108 #[.iface 145 (.agg #[id,name,li,ha])] w fun e w'=>e=.returned (.tuple #[.string (gW name li ha),(0:Int)])/\Below w.heap.size w w':=by
 have H:=Hd hv;have hm:=xT id name li ha;have hw:=fun w0=>TQ id name li ha w0 hv
 have HW:Hid (∀ w0,() 125 #[.iface 145 (.agg #[id,name,li,ha])] w0 fun e w'=>e=.returned (.string (gW name li ha))/\Below w0.heap.size w0 w'):=Hd hw;clear hv hw;go_enter Tryz.func108,Tryz.ntmps108;go_wp2_with fail;refine(tK _ _ _ _ _ hs H.o).mono ?_;rintro e w1 ⟨rfl,b1⟩;go_wp2_with fail;refine(HW _).mono ?_;rintro e w2 ⟨rfl,b2⟩;go_wp2_with fail;go_ret2;exact⟨rfl,chain b1 b2⟩
theorem xF (id:Int)(pa:Int)(ob:Int)(ow:Int)(ri:Int)(ba:Int)(de:Int)(ex:Int)(cu:Int)(rv:Bool)(s:ByteArray)(w:World)(hk:capOk id pa ob ow ri ba de ex cu=true) :
  () 89 #[.iface 136 (.agg #[id,pa,ob,ow,ri,ba,de,ex,cu,rv]),s] w fun e w'=>e=.returned (.bool (TI id pa ob ow ri ba de ex cu rv s))/\Below w.heap.size w w':=by
 have K:=Hd (tE id pa ob ow ri ba de ex cu rv w hk)
 have F:Hid (TI id pa ob ow ri ba de ex cu rv s=((qH pa ob ow ri ba de ex cu rv).toList==s.toList)):=Hd (by
  unfold TI;rw[hk,tR,Bool.true_and])
 clear hk;generalize qH pa ob ow ri ba de ex cu rv=x at *;go_enter Tryz.func89,Tryz.ntmps89;go_wp2_with fail;refine K.mono ?_;rintro e w1 ⟨rfl,b1⟩;go_wp2_with fail;go_ret;exact⟨by rw[F.o];rfl,b1⟩
theorem sJ (id:Int)(name:ByteArray)(li:Int)(ha:Int)(s:ByteArray)(w:World)(hs:name.size<=140737488351232)(hk:dS id name li ha=true) :
  () 89 #[.iface 145 (.agg #[id,name,li,ha]),s] w fun e w'=>e=.returned (.bool (qP id name li ha s))/\Below w.heap.size w w':=by
 have K:=Hd (pP id name li ha w hs hk)
 have F:Hid (qP id name li ha s=((gW name li ha).toList==s.toList)):=Hd (by
  unfold qP;rw[hk,tR,Bool.true_and])
 clear hk;generalize gW name li ha=x at *;go_enter Tryz.func89,Tryz.ntmps89;go_wp2_with fail;refine K.mono ?_;rintro e w1 ⟨rfl,b1⟩;go_wp2_with fail;go_ret;exact⟨by rw[F.o];rfl,b1⟩
theorem FJ (id:Int)(s:ByteArray)(w:World)(hk:sQ id s=true) :
  () 51 #[id,s] w fun e w'=>e=.returned (.tuple #[.agg #[id,.int .i64 (vO s),.int .i64 (vN s),.int .i64 (vM s),.int .i64 (vL s),.int .i64 (vK s),.int .i64 (vJ s),.int .i64 (vI s),.int .i64 (vH s),.bool (vG s==1)],(0:Int)])/\Below w.heap.size w w':=by
 have H:=Hd hk;unfold sQ at H;clear hk;generalize h0:vO s=n0 at *;generalize h1:vN s=n1 at *;generalize h2:vM s=n2 at *;generalize h3:vL s=n3 at *;generalize h4:vK s=n4 at *;generalize h5:vJ s=n5 at *;generalize h6:vI s=n6 at *;generalize h7:vH s=n7 at *;generalize h8:vG s=n8 at *;have E0:Hid (aT s 3=n0):=Hd h0;have E1:Hid (aT (aA s 3) 3=n1):=Hd h1;have E2:Hid (aT (aA (aA s 3) 3) 3=n2):=Hd h2;have E3:Hid (aT (aA (aA (aA s 3) 3) 3) 2=n3):=Hd h3
 have E4:Hid (aT (aA (aA (aA (aA s 3) 3) 3) 2) 4=n4):=Hd h4;have E5:Hid (aT (aA (aA (aA (aA (aA s 3) 3) 3) 2) 4) 1=n5):=Hd h5;have E6:Hid (aT (aA (aA (aA (aA (aA (aA s 3) 3) 3) 2) 4) 1) 4=n6):=Hd h6;have E7:Hid (aT (aA (aA (aA (aA (aA (aA (aA s 3) 3) 3) 2) 4) 1) 4) 3=n7):=Hd h7;have E8:Hid (aT (aA (aA (aA (aA (aA (aA (aA (aA s 3) 3) 3) 2) 4) 1) 4) 3) 1=n8):=Hd h8;clear h0 h1 h2 h3 h4 h5 h6 h7 h8;go_enter Tryz.func51,Tryz.ntmps51;go_wp2_with fail
 refine(iB _ s _ _ (heap_alloc2_new _ _ _) (by decide)).mono ?_;rw[E0.o];rintro e w1 ⟨rfl,f1,b1⟩;have F1:=Hd f1;have R1:Hid (w1.heap[w.heap.size]?=some (.cells #[(0:Int),(0:Int),(0:Int),(0:Int),(0:Int),(0:Int),(0:Int),(0:Int),(0:Int),false] 33)):=Hd (by rw[b1.block _ (Nat.lt_succ_self _)];exact heap_alloc2_old _ _ _);have B1:Hid (Below w.heap.size w w1):=Hd ((Br.alloc (Nat.le_refl _) _).alloc (by simp) _ |>.trans (b1.mono (by simp)));clear f1 b1;go_wp2_with fail;refine(iB _ _ _ _ F1 (by decide)).mono ?_
 rw[E1.o];rintro e w2 ⟨rfl,f2,b2⟩;have F2:=Hd f2;have R2:Hid (w2.heap[w.heap.size]?=some (.cells #[(0:Int),(0:Int),(0:Int),(0:Int),(0:Int),(0:Int),(0:Int),(0:Int),(0:Int),false] 33)):=Hd (by rw[b2.block _ (Nat.lt_succ_self _)];exact R1.o);have B2:Hid (Below w.heap.size w w2):=Hd (B1.trans (b2.mono (by simp)));clear f2 b2 F1 R1 B1;go_wp2_with fail;refine(iB _ _ _ _ F2 (by decide)).mono ?_;rw[E2.o];rintro e w3 ⟨rfl,f3,b3⟩;have F3:=Hd f3
 have R3:Hid (w3.heap[w.heap.size]?=some (.cells #[(0:Int),(0:Int),(0:Int),(0:Int),(0:Int),(0:Int),(0:Int),(0:Int),(0:Int),false] 33)):=Hd (by rw[b3.block _ (Nat.lt_succ_self _)];exact R2.o);have B3:Hid (Below w.heap.size w w3):=Hd (B2.trans (b3.mono (by simp)));clear f3 b3 F2 R2 B2;go_wp2_with fail;refine(iB _ _ _ _ F3 (by decide)).mono ?_;rw[E3.o];rintro e w4 ⟨rfl,f4,b4⟩;have F4:=Hd f4
 have R4:Hid (w4.heap[w.heap.size]?=some (.cells #[(0:Int),(0:Int),(0:Int),(0:Int),(0:Int),(0:Int),(0:Int),(0:Int),(0:Int),false] 33)):=Hd (by rw[b4.block _ (Nat.lt_succ_self _)];exact R3.o);have B4:Hid (Below w.heap.size w w4):=Hd (B3.trans (b4.mono (by simp)));clear f4 b4 F3 R3 B3;go_wp2_with fail;refine(iB _ _ _ _ F4 (by decide)).mono ?_;rw[E4.o];rintro e w5 ⟨rfl,f5,b5⟩;have F5:=Hd f5
 have R5:Hid (w5.heap[w.heap.size]?=some (.cells #[(0:Int),(0:Int),(0:Int),(0:Int),(0:Int),(0:Int),(0:Int),(0:Int),(0:Int),false] 33)):=Hd (by rw[b5.block _ (Nat.lt_succ_self _)];exact R4.o);have B5:Hid (Below w.heap.size w w5):=Hd (B4.trans (b5.mono (by simp)));clear f5 b5 F4 R4 B4;go_wp2_with fail;refine(iB _ _ _ _ F5 (by decide)).mono ?_;rw[E5.o];rintro e w6 ⟨rfl,f6,b6⟩;have F6:=Hd f6
 have R6:Hid (w6.heap[w.heap.size]?=some (.cells #[(0:Int),(0:Int),(0:Int),(0:Int),(0:Int),(0:Int),(0:Int),(0:Int),(0:Int),false] 33)):=Hd (by rw[b6.block _ (Nat.lt_succ_self _)];exact R5.o);have B6:Hid (Below w.heap.size w w6):=Hd (B5.trans (b6.mono (by simp)));clear f6 b6 F5 R5 B5;go_wp2_with fail;refine(iB _ _ _ _ F6 (by decide)).mono ?_;rw[E6.o];rintro e w7 ⟨rfl,f7,b7⟩;have F7:=Hd f7
 have R7:Hid (w7.heap[w.heap.size]?=some (.cells #[(0:Int),(0:Int),(0:Int),(0:Int),(0:Int),(0:Int),(0:Int),(0:Int),(0:Int),false] 33)):=Hd (by rw[b7.block _ (Nat.lt_succ_self _)];exact R6.o);have B7:Hid (Below w.heap.size w w7):=Hd (B6.trans (b7.mono (by simp)));clear f7 b7 F6 R6 B6;go_wp2_with fail;refine(iB _ _ _ _ F7 (by decide)).mono ?_;rw[E7.o];rintro e w8 ⟨rfl,f8,b8⟩;have F8:=Hd f8
 have R8:Hid (w8.heap[w.heap.size]?=some (.cells #[(0:Int),(0:Int),(0:Int),(0:Int),(0:Int),(0:Int),(0:Int),(0:Int),(0:Int),false] 33)):=Hd (by rw[b8.block _ (Nat.lt_succ_self _)];exact R7.o);have B8:Hid (Below w.heap.size w w8):=Hd (B7.trans (b8.mono (by simp)));clear f8 b8 F7 R7 B7;go_wp2_with fail;refine(iB _ _ _ _ F8 (by decide)).mono ?_;rw[E8.o];rintro e w9 ⟨rfl,f9,b9⟩;have F9:=Hd f9
 have R9:Hid (w9.heap[w.heap.size]?=some (.cells #[(0:Int),(0:Int),(0:Int),(0:Int),(0:Int),(0:Int),(0:Int),(0:Int),(0:Int),false] 33)):=Hd (by rw[b9.block _ (Nat.lt_succ_self _)];exact R8.o);have B9:Hid (Below w.heap.size w w9):=Hd (B8.trans (b9.mono (by simp)));clear f9 b9 F8 R8 B8;go_wp2_with fail;refine(xF _ _ _ _ _ _ _ _ _ _ _ _ (by have:=H.o;unfold TI at this;rw[Bool.and_eq_true] at this;exact this.1)).mono ?_;rw[H.o];rintro e wz ⟨rfl,bz⟩
 have hlt:w.heap.size<w9.heap.size:=(zl R9.o);have X4:Hid (wz.heap[w9.heap.size]?=some (.cells #[id,.int .i64 n0,.int .i64 n1,.int .i64 n2,.int .i64 n3,.int .i64 n4,.int .i64 n5,.int .i64 n6,.int .i64 n7,.bool (n8==1)] 33)):=Hd (by rw[bz.block _ (by simp)];exact han _ _);have d0:=cl X4 0 rfl;have d1:=cl X4 1 rfl;have d2:=cl X4 2 rfl;have d3:=cl X4 3 rfl;have d4:=cl X4 4 rfl;have d5:=cl X4 5 rfl;have d6:=cl X4 6 rfl;have d7:=cl X4 7 rfl;have d8:=cl X4 8 rfl
 have d9:=cl X4 9 rfl
 have RZ:wz.heap[w.heap.size]?=some (.cells #[(0:Int),(0:Int),(0:Int),(0:Int),(0:Int),(0:Int),(0:Int),(0:Int),(0:Int),false] 33):=by
  rw[bz.block _ (by simp;omega),Below.heap_alloc w9 _ _ hlt];exact R9.o
 have BZ:Hid (Below w.heap.size w wz):=Hd ((B9.alloc (Nat.le_of_lt hlt) _).trans (bz.mono (by simp;omega)));have c0:=cl RZ 0 rfl;have c1:=cl RZ 1 rfl;have c2:=cl RZ 2 rfl;have c3:=cl RZ 3 rfl;have c4:=cl RZ 4 rfl;have c5:=cl RZ 5 rfl;have c6:=cl RZ 6 rfl;have c7:=cl RZ 7 rfl;have c8:=cl RZ 8 rfl;have c9:=cl RZ 9 rfl;have f0:=ufb RZ 0;have f1:=ufb RZ 1;have f2:=ufb RZ 2;have f3:=ufb RZ 3;have f4:=ufb RZ 4;have f5:=ufb RZ 5;have f6:=ufb RZ 6;have f7:=ufb RZ 7;have f8:=ufb RZ 8;have f9:=ufb RZ 9
 have RX:=Hd (qM w.heap.size 33 (0,0) [id,.int .i64 n0,.int .i64 n1,.int .i64 n2,.int .i64 n3,.int .i64 n4,.int .i64 n5,.int .i64 n6,.int .i64 n7,.bool (n8==1)] wz 0 _ RZ rfl);have BX:=Hd (oK w.heap.size (Nat.le_refl _) [id,.int .i64 n0,.int .i64 n1,.int .i64 n2,.int .i64 n3,.int .i64 n4,.int .i64 n5,.int .i64 n6,.int .i64 n7,.bool (n8==1)] wz 0 BZ.o);clear bz R9 B9 F9 RZ BZ X4;go_wp2_with fail
 exact bodyPost_ret (v:=.tuple #[.agg #[id,.int .i64 n0,.int .i64 n1,.int .i64 n2,.int .i64 n3,.int .i64 n4,.int .i64 n5,.int .i64 n6,.int .i64 n7,.bool (n8==1)],(0:Int)]) (bO Tryz.results51 _ _ w.heap.size 33 _ (0,0) _ _ rfl rfl RX Tryz.underlying33 rfl kL) rfl ⟨rfl,BX.o⟩
theorem xJ (id:Int)(s:ByteArray)(w:World)(hs:s.size<=140737488360000)(hk:mG id s=true) :
  () 62 #[id,s] w fun e w'=>e=.returned (.tuple #[.agg #[id,.string (nH s),.int .i64 (nJ s),.int .i64 (nI s)],(0:Int)])/\Below w.heap.size w w':=by
 have H:=Hd hk;unfold mG at H;clear hk;have hr2:(aA (aA s 2) 2).size<=140737488360000:=Nat.le_trans (sU _ _) (Nat.le_trans (sU _ _) hs);have hr3:(ttS (aA (aA s 2) 2)).size<=140737488351232:=Nat.le_trans (OF _) (by decide);have HR:=Hd hr2;have HT:=Hd hr3;clear hr2 hr3;generalize h0:nJ s=n0 at *;generalize h1:nI s=n1 at *;generalize h2:nH s=n2 at *;have E0:Hid (aT s 2=n0):=Hd h0;have E1:Hid (aT (aA s 2) 2=n1):=Hd h1;have E2:Hid (ttS (aA (aA s 2) 2)=n2):=Hd h2;clear h0 h1 h2
 rw[E2.o] at HT;go_enter Tryz.func62,Tryz.ntmps62;go_wp2_with fail;refine(iB _ s _ _ (heap_alloc2_new _ _ _) (by decide)).mono ?_;rw[E0.o];rintro e w1 ⟨rfl,f1,b1⟩;have F1:=Hd f1;have R1:Hid (w1.heap[w.heap.size]?=some (.cells #[(0:Int),.string ⟨#[]⟩,(0:Int),(0:Int)] 49)):=Hd (by rw[b1.block _ (Nat.lt_succ_self _)];exact heap_alloc2_old _ _ _);have B1:Hid (Below w.heap.size w w1):=Hd ((Br.alloc (Nat.le_refl _) _).alloc (by simp) _ |>.trans (b1.mono (by simp)));clear f1 b1;go_wp2_with fail;refine(iB _ _ _ _ F1 (by decide)).mono ?_;rw[E1.o]
 rintro e w2 ⟨rfl,f2,b2⟩;have F2:=Hd f2;have R2:Hid (w2.heap[w.heap.size]?=some (.cells #[(0:Int),.string ⟨#[]⟩,(0:Int),(0:Int)] 49)):=Hd (by rw[b2.block _ (Nat.lt_succ_self _)];exact R1.o);have B2:Hid (Below w.heap.size w w2):=Hd (B1.trans (b2.mono (by simp)));clear f2 b2 F1 R1 B1;go_wp2_with fail;refine(SE _ _ _ F2 (Nat.le_trans HR (by decide))).mono ?_;rw[E2.o];rintro e w3 ⟨rfl,f3,b3⟩;have F3:=Hd f3
 have R3:Hid (w3.heap[w.heap.size]?=some (.cells #[(0:Int),.string ⟨#[]⟩,(0:Int),(0:Int)] 49)):=Hd (by rw[b3.block _ (Nat.lt_succ_self _)];exact R2.o);have B3:Hid (Below w.heap.size w w3):=Hd (B2.trans (b3.mono (by simp)));clear f3 b3 F2 R2 B2;go_wp2_with fail;refine(sJ _ _ _ _ _ _ HT (by have:=H.o;unfold qP at this;rw[Bool.and_eq_true] at this;exact this.1)).mono ?_;rw[H.o];rintro e wz ⟨rfl,bz⟩;have hlt:w.heap.size<w3.heap.size:=(zl R3.o)
 have X4:Hid (wz.heap[w3.heap.size]?=some (.cells #[id,n2,.int .i64 n0,.int .i64 n1] 49)):=Hd (by rw[bz.block _ (by simp)];exact han _ _);have d0:=cl X4 0 rfl;have d1:=cl X4 1 rfl;have d2:=cl X4 2 rfl;have d3:=cl X4 3 rfl
 have RZ:wz.heap[w.heap.size]?=some (.cells #[(0:Int),.string ⟨#[]⟩,(0:Int),(0:Int)] 49):=by
  rw[bz.block _ (by simp;omega),Below.heap_alloc w3 _ _ hlt];exact R3.o
 have BZ:Hid (Below w.heap.size w wz):=Hd ((B3.alloc (Nat.le_of_lt hlt) _).trans (bz.mono (by simp;omega)));have c0:=cl RZ 0 rfl;have c1:=cl RZ 1 rfl;have c2:=cl RZ 2 rfl;have c3:=cl RZ 3 rfl;have f0:=ufb RZ 0;have f1:=ufb RZ 1;have f2:=ufb RZ 2;have f3:=ufb RZ 3;have RX:=Hd (qM w.heap.size 49 (0,0) [id,n2,.int .i64 n0,.int .i64 n1] wz 0 _ RZ rfl);have BX:=Hd (oK w.heap.size (Nat.le_refl _) [id,n2,.int .i64 n0,.int .i64 n1] wz 0 BZ.o);clear bz R3 B3 F3 RZ BZ X4;go_wp2_with fail
 exact bodyPost_ret (v:=.tuple #[.agg #[id,n2,.int .i64 n0,.int .i64 n1],(0:Int)]) (bO Tryz.results62 _ _ w.heap.size 49 _ (0,0) _ _ rfl rfl RX Tryz.underlying49 rfl fI) rfl ⟨rfl,BX.o⟩
theorem QE (id:Int)(pa:Int)(ob:Int)(ow:Int)(ri:Int)(ba:Int)(de:Int)(ex:Int)(cu:Int)(rv:Bool)(w:World)(hv:capOk id pa ob ow ri ba de ex cu=true) :
  () 82 #[.agg #[id,pa,ob,ow,ri,ba,de,ex,cu,rv]] w fun e w'=>e=.returned (.tuple #[.string (qH pa ob ow ri ba de ex cu rv),(0:Int)])/\Below w.heap.size w w':=by
 go_enter Tryz.func82,Tryz.ntmps82;go_wp2_with fail;refine(tE _ _ _ _ _ _ _ _ _ _ _ hv).mono ?_;rintro e w1 ⟨rfl,b1⟩;go_wp2_with fail;go_ret2;exact⟨rfl,(Br.alloc (Nat.le_refl _) _).trans (b1.mono (by simp))⟩
theorem AT (id:Int)(name:ByteArray)(li:Int)(ha:Int)(w:World)(hs:name.size<=140737488351232)(hv:dS id name li ha=true) :
  () 77 #[.agg #[id,name,li,ha]] w fun e w'=>e=.returned (.tuple #[.string (gW name li ha),(0:Int)])/\Below w.heap.size w w':=by
 go_enter Tryz.func77,Tryz.ntmps77;go_wp2_with fail;refine(pP _ _ _ _ _ hs hv).mono ?_;rintro e w1 ⟨rfl,b1⟩;go_wp2_with fail;go_ret2;exact⟨rfl,(Br.alloc (Nat.le_refl _) _).trans (b1.mono (by simp))⟩
theorem kept {w w':World}{g:Nat}{o:Obj}(h:w.heap[g]?=some o)(b:Below w.heap.size w w'):w'.heap[g]?=some o:=by
 rw[b.block g (zl h)];exact h
def Rd (w:World)(a:Option Addr)(L:List Value):Prop:=
 L=[]\/∃ b off,a=some ⟨b,off,none⟩/\b<w.heap.size/\∀ i u,L[i]?=some u->w.cell? ⟨b,off+i,none⟩=some u
theorem Rd.below {w w':World}{a:Option Addr}{L:List Value}(h:Rd w a L)(hb:Below w.heap.size w w'):Rd w' a L:=by
 rcases h with h|⟨b,off,h1,h2,h3⟩
 ·exact .inl h
 ·exact .inr ⟨b,off,h1,Nat.lt_of_lt_of_le h2 hb.size,fun i u hu=>(hb.cell (p:=⟨b,off+i,none⟩) h2).trans (h3 i u hu)⟩
theorem Rd.at {w:World}{a:Option Addr}{L:List Value}(h:Rd w a L)(i:Nat)(hi:i<L.length):∃ b off,a=some ⟨b,off,none⟩/\b<w.heap.size/\w.cell? ⟨b,off+i,none⟩=some L[i]:=by
 rcases h with rfl|⟨b,off,h1,h2,h3⟩
 ·exact absurd hi (Nat.not_lt_zero _)
 ·exact⟨b,off,h1,h2,h3 i _ (List.getElem?_eq_getElem hi)⟩
theorem Rd.sliced {w:World}{a:Option Addr}{L:List Value}(h:Rd w a L)(lo hi cap:Nat)(h1:lo<=hi)(h2:hi<=L.length)(h3:L.length<=cap) :
  ∃ a',sliced a lo hi cap 1=.slice a' (hi-lo) (cap-lo)/\Rd w a' ((L.drop lo).take (hi-lo)):=by
 refine⟨_,rfl,?_⟩
 rcases h with rfl|⟨b,off,rfl,g2,g3⟩
 ·left;simp
 ·by_cases hc:cap=lo
  ·left
   have:hi-lo=0:=by omega
   rw[this];simp
  ·right
   refine⟨b,off+lo,by simp only[hc,if_false,Option.map_some,Nat.mul_one];rw[gC],g2,fun i u hu=>?_⟩;rw[List.getElem?_take] at hu
   split at hu
   case isFalse=>cases hu
   rw[List.getElem?_drop] at hu;have:=g3 (lo+i) u hu;rw[Nat.add_assoc];exact this
theorem Rd.own {w:World}{base:Nat}{e:TypeId}{v:Value}{n:Nat}{xs:List Value}(h:w.ownsRow base e 1 v n xs):∃ a cap,v=.slice a xs.length cap/\Rd w a xs/\xs.length<=cap/\cap<=maxLen:=by
 have hl:xs.length=n:=by have:=h.1;omega
 rcases h.2 with⟨rfl,h0⟩|⟨g,cap,cur,hv,hb,hh,hn,hc,hs,ht⟩
 ·have:xs=[]:=List.eq_nil_of_length_eq_zero (by omega)
  subst this;exact⟨none,0,rfl,.inl rfl,Nat.le_refl _,Nat.zero_le _⟩
 ·refine⟨some ⟨g,0,none⟩,cap,by rw[hl];exact hv,.inr ⟨g,0,rfl,(zl hh),fun i u hu=>?_⟩,by omega,hc⟩
  have:=h.cells (g:=g) (by rw[hv];rfl) i u hu;rwa [gC] at this
theorem qZ {P:Program}(w:World)(base:Nat)(t ty e:TypeId)(i:TypeInfo)(z:Value)(bytes:Nat)(ht:P.underlying t=some (.slice e))(hi:P.info? e=some i)(hz:i.zero=some z)
  (hsize:i.size=1)(hby:i.bytes=bytes)(hzs:z.cells.size=1)
  (v:Value)(n:Nat)(xs:List Value)(hown:w.ownsRow base e 1 v n xs)(a:Option Addr)(L:List Value)(c:Nat)(hr:Rd w a L)(h1:∀ u∈L,u.oneCell'=true)
  (h63:n+L.length<=maxLen)(hbytes:(n+L.length)*bytes<=140737488355328)(hbase:base<=w.heap.size) :
  ∃ v' w',(Builtin.append_ #[t,t] ty #[v,a L.length c]).run P w=.ok v' w'/\w'.ownsRow base e 1 v' (n+L.length) (xs++L)/\w.grownBy w' v.ownBlock:=by
 by_cases hL:L=[]
 ·subst hL
  rw[List.append_nil];refine⟨v,w,?_,hown,⟨rfl,rfl,rfl,Nat.le_refl _,fun _ _ _=>rfl⟩⟩
  rcases hown.2 with⟨rfl,rfl⟩|⟨g,cap,cur,rfl,hbg,hg,hnc,hcm,hcs,htake⟩
  ·cases a <;> simp[Builtin.append_,run_underlying ht,sizeOf,typeInfo,hi,Builtin.lenOf,Builtin.firstCells,loadCells,loadCellsFrom]
  ·cases a <;> simp[Builtin.append_,run_underlying ht,sizeOf,typeInfo,hi,Builtin.lenOf,Builtin.firstCells,loadCells,loadCellsFrom,hnc,storeCells]
 ·rcases hr with hr|⟨b,off,rfl,g2,g3⟩
  ·exact absurd hr hL
  ·obtain⟨v',w',q1,q2,q3,_⟩:=run_append_own (P:=P) w base t ty e i z 1 bytes ht hi hz hsize hby hzs (by omega) v n xs hown ⟨b,off,none⟩ L.length c L (by omega)
    (fun j u hu=>by rw[gC];exact g3 j u hu) h1 h63 hbytes hbase
   exact⟨v',w',q1,q2,q3⟩
structure Nod where
 leaf:Bool
 K:List Int
 V:List ByteArray
 C:List Int
def bH (n:Nod):Bool:=if n.leaf then decide (n.V.length=n.K.length)&&decide (n.C.length=0) else decide (n.C.length=n.K.length+1)&&decide (n.V.length=0)
def bK:List ByteArray->Nat
 | []=>0
 | v::l=>v.size+bK l
theorem fA (l m:List ByteArray):bK (l++m)=bK l+bK m:=by
 induction l with
 | nil=>simp[bK]
 | cons a l ih=>simp[bK,ih];omega
theorem qI (l:List ByteArray)(i:Nat):bK (l.take i)+bK (l.drop i)=bK l:=by
 rw[<-fA,List.take_append_drop]
theorem nZ (l:List ByteArray)(m:Nat)(h:∀ v∈l,v.size<=m):bK l<=l.length*m:=by
 induction l with
 | nil=>simp[bK]
 | cons a l ih=>
  have h1:=h a (by simp);have h2:=ih fun v hv=>h v (by simp[hv])
  simp only[bK,List.length_cons,Nat.add_mul];omega
def aI (n:Nod):Nat:=if n.leaf then 1+9*n.K.length+bK n.V else 1+8*n.K.length+2*n.C.length
def eM (leaf:Bool)(key:Int):List Int->Nat->Nat × Bool
 | [],i=>(i,!leaf)
 | k::r,i=>if leaf=true/\k=key then(i,true) else if key<k then(i,!leaf) else eM leaf key r (i+1)
theorem CQ (leaf:Bool)(key:Int)(K:List Int)(i:Nat)(h:i<K.length) :
  eM leaf key (K.drop i) i=if leaf=true/\K[i]=key then(i,true) else if key<K[i] then(i,!leaf) else eM leaf key (K.drop (i+1)) (i+1):=by
 rw[List.drop_eq_getElem_cons h]
 rfl
theorem JE (leaf:Bool)(key:Int)(K:List Int)(i:Nat)(h:K.length=i):eM leaf key (K.drop i) i=(i,!leaf):=by
 rw[List.drop_eq_nil_of_le (by omega)]
 rfl
theorem wU (leaf:Bool)(key:Int):∀ (K:List Int) (i:Nat),i<=(eM leaf key K i).1/\(eM leaf key K i).1<=i+K.length/\((eM leaf key K i).2=true->leaf=true->(eM leaf key K i).1<i+K.length):=by
 intro K
 induction K with
 | nil=>intro i;simp[eM]
 | cons k r ih=>
  intro i;unfold eM
  split
  ·simp
  ·split
   ·refine⟨Nat.le_refl _,by simp,?_⟩
    intro h1 h2;rw[h2] at h1;exact absurd h1 (by simp)
   ·have:=ih (i+1)
    simp only[List.length_cons];refine⟨by omega,by omega,fun h1 h2=>by have:=this.2.2 h1 h2;omega⟩
def bX (n:Nod)(key:Int):Nat × Bool:=if bH n then eM n.leaf key n.K 0 else(0,false)
theorem uA (n:Nod)(key:Int):(bX n key).1<=n.K.length:=by
 unfold bX
 split
 ·have:=(wU n.leaf key n.K 0).2.1;omega
 ·exact Nat.zero_le _
theorem tZ (n:Nod)(key:Int)(h:(bX n key).2=true)(hl:n.leaf=true):(bX n key).1<n.K.length:=by
 unfold bX at h |-
 split
 ·rename_i hw
  rw[if_pos hw] at h;have:=(wU n.leaf key n.K 0).2.2 h hl;omega
 ·rename_i hw
  rw[if_neg hw] at h
  cases h
def fN (n:Nod)(key:Int)(v:ByteArray):Nod:=
 if(n.leaf&&bH n)=true then
  {leaf:=true,K:=n.K.take (bX n key).1++[key]++n.K.drop ((bX n key).1+(if(bX n key).2 then 1 else 0)),V:=n.V.take (bX n key).1++[v]++n.V.drop ((bX n key).1+(if(bX n key).2 then 1 else 0)),C:=[] }
 else n
def oG (n:Nod)(i:Int)(key:Int)(kid:Int):Nod:=
 if(!n.leaf&&bH n&&decide (0<=i)&&decide (i<=n.K.length))=true then
  {leaf:=false,K:=n.K.take i.toNat++[key]++n.K.drop i.toNat,V:=[],C:=n.C.take (i.toNat+1)++[kid]++n.C.drop (i.toNat+1) }
 else n
theorem AS (n:Nod)(key:Int)(v:ByteArray)(h:n.leaf=true):(fN n key v).leaf=true:=by unfold fN;split <;> first|rfl|exact h
theorem bG {n:Nod}(h:n.leaf=true):bH n=true ↔ n.V.length=n.K.length/\n.C.length=0:=by unfold bH;rw[h];simp
theorem aQ {n:Nod}(h:n.leaf=false):bH n=true ↔ n.C.length=n.K.length+1/\n.V.length=0:=by unfold bH;rw[h];simp
theorem aE4 (n:Nod)(key:Int)(v:ByteArray)(hl:n.leaf=true)(hw:bH n=true):(fN n key v).K.length=n.K.length+(if(bX n key).2 then 0 else 1):=by
 have h2:=uA n key;have h3:=tZ n key;unfold fN;rw[if_pos (by rw[hl,hw];rfl)];simp only[List.length_append,List.length_take,List.length_drop,List.length_cons,List.length_nil]
 split
 ·rename_i h
  have:=h3 h hl;omega
 ·omega
theorem WB (n:Nod)(key:Int)(v:ByteArray)(hl:n.leaf=true)(hw:bH n=true) :
  (aI (fN n key v):Int)-(aI n:Int)=if(bX n key).2 then(v.size:Int)-((n.V.getD (bX n key).1 ByteArray.empty).size:Int) else 9+(v.size:Int):=by
 have h1:=(bG hl).1 hw;have h2:=uA n key;have h3:=tZ n key;have hk:=aE4 n key v hl hw;have hs:=qI n.V (bX n key).1;unfold aI;rw[AS n key v hl,hl,hk];simp only[if_true]
 have hv:(fN n key v).V=n.V.take (bX n key).1++[v]++n.V.drop ((bX n key).1+(if(bX n key).2 then 1 else 0)):=by
  unfold fN;rw[if_pos (by rw[hl,hw];rfl)]
 rw[hv,fA,fA]
 split
 ·rename_i h
  have hlt:=h3 h hl;have hd:n.V.drop (bX n key).1=n.V[(bX n key).1]'(by omega)::n.V.drop ((bX n key).1+1):=List.drop_eq_getElem_cons (by omega);rw[hd] at hs;rw[List.getD_eq_getElem?_getD,List.getElem?_eq_getElem (by omega)];simp only[bK,Option.getD_some] at hs |-;omega
 ·simp only[bK,Nat.add_zero]
  omega
def bI (k:Int):Value:=.int .u64 k
def dT (k:Int):Value:=.int .i64 k
def aJ (n:Nod)(ak av ac:Option Addr)(ck cv cc:Nat):Value:=.agg #[n.leaf,ak n.K.length ck,av n.V.length cv,ac n.C.length cc]
structure dD (n:Nod):Prop where
 k1:n.K.length<=1000
 v1:n.V.length<=1000
 c1:n.C.length<=1000
 kb:∀ x∈n.K,0<=x/\x<=18446744073709551615
 vb:∀ x∈n.V,x.size<=140737488351232
 cb:∀ x∈n.C,-9223372036854775808<=x/\x<=9223372036854775807
structure NodR (w:World)(n:Nod)(ak av ac:Option Addr)(ck cv cc:Nat):Prop where
 k:Rd w ak (n.K.map bI)
 v:Rd w av (n.V.map Value.string)
 c:Rd w ac (n.C.map dT)
 k2:n.K.length<=ck
 k3:ck<=maxLen
 v2:n.V.length<=cv
 v3:cv<=maxLen
 c2:n.C.length<=cc
 c3:cc<=maxLen
 ok:dD n
theorem NodR.below {w w':World}{n:Nod}{ak av ac:Option Addr}{ck cv cc:Nat}(h:NodR w n ak av ac ck cv cc)(hb:Below w.heap.size w w'):NodR w' n ak av ac ck cv cc:=
 ⟨h.k.below hb,h.v.below hb,h.c.below hb,h.k2,h.k3,h.v2,h.v3,h.c2,h.c3,h.ok⟩
theorem TU (lf:Bool)(lk lv lc ck cv cc:Nat)(ak av ac:Option Addr)(w:World)(v:Bool)(hv:Hid ((if lf then decide (lv=lk)&&decide (lc=0) else decide (lc=lk+1)&&decide (lv=0))=v))(h1:lk<=1000)(h2:lv<=1000)(h3:lc<=1000) :
  () 129 #[.agg #[lf,ak lk ck,av lv cv,ac lc cc]] w fun e w'=>e=.returned (.bool v)/\Below w.heap.size w w':=by
 cases lf
 ·by_cases a1:(lc:Int)=(lk:Int)+1
  ·by_cases a2:(lv:Int)=0
   ·have hv':v=true:=by rw[<-hv.o];simp;omega
    subst hv';clear hv;go_enter Tryz.func129,Tryz.ntmps129;go_wp2_with fail;go_ret;exact⟨aU (by first|rfl|simpa using a2),Br.alloc (Nat.le_refl _) _⟩
   ·have hv':v=false:=by rw[<-hv.o];simp;omega
    subst hv';clear hv;go_enter Tryz.func129,Tryz.ntmps129;go_wp2_with fail;go_ret;exact⟨aU (by first|rfl|simpa using a2),Br.alloc (Nat.le_refl _) _⟩
  ·have hv':v=false:=by rw[<-hv.o];simp;omega
   subst hv';clear hv;go_enter Tryz.func129,Tryz.ntmps129;go_wp2_with fail;go_ret;exact⟨rfl,Br.alloc (Nat.le_refl _) _⟩
 ·by_cases a1:(lv:Int)=(lk:Int)
  ·by_cases a2:(lc:Int)=0
   ·have hv':v=true:=by rw[<-hv.o];simp;omega
    subst hv';clear hv;go_enter Tryz.func129,Tryz.ntmps129;go_wp2_with fail;go_ret;exact⟨aU (by first|rfl|simpa using a2),Br.alloc (Nat.le_refl _) _⟩
   ·have hv':v=false:=by rw[<-hv.o];simp;omega
    subst hv';clear hv;go_enter Tryz.func129,Tryz.ntmps129;go_wp2_with fail;go_ret;exact⟨aU (by first|rfl|simpa using a2),Br.alloc (Nat.le_refl _) _⟩
  ·have hv':v=false:=by rw[<-hv.o];simp;omega
   subst hv';clear hv;go_enter Tryz.func129,Tryz.ntmps129;go_wp2_with fail;go_ret;exact⟨rfl,Br.alloc (Nat.le_refl _) _⟩
theorem gK (n:Nod)(ak av ac:Option Addr)(ck cv cc:Nat)(w:World)(ho:dD n)(v:Bool)(hv:bH n=v) :
  () 129 #[aJ n ak av ac ck cv cc] w fun e w'=>e=.returned (.bool v)/\Below w.heap.size w w':=
 TU n.leaf n.K.length n.V.length n.C.length ck cv cc ak av ac w v (Hd hv) ho.k1 ho.v1 ho.c1
theorem DV (V:List ByteArray)(i:Nat)(h:i<V.length):bK (V.take (i+1))=bK (V.take i)+V[i].size:=by
 rw[List.take_succ_eq_append_getElem h,fA];simp[bK]
theorem jA (n:Nod)(ak av ac:Option Addr)(ck cv cc:Nat)(w:World)(h:NodR w n ak av ac ck cv cc)(z:Nat)(hz:Hid (aI n=z))(hw:bH n=true) :
  () 132 #[aJ n ak av ac ck cv cc] w fun e w'=>e=.returned (.int .i64 (z:Int))/\Below w.heap.size w w':=by
 obtain⟨lf,K,V,C⟩:=n;have h1:=h.ok.k1;have h2:=h.ok.v1;have h3:=h.ok.c1;have HV:=Hd h.v;have vb:=h.ok.vb
 have tot:∀ i,bK (V.take i)<=1000*140737488351232:=fun i=>by
  have a:=nZ (V.take i) 140737488351232 (fun v hv=>vb v (List.mem_of_mem_take hv));have b:(V.take i).length<=1000:=by have:V.length<=1000:=h2;rw[List.length_take];omega
  exact Nat.le_trans a (Nat.mul_le_mul_right _ b)
 have TOT:=Hd tot;have VB:=Hd vb;have hk:K.length<=1000:=h1;have hv:V.length<=1000:=h2;have hc:C.length<=1000:=h3;clear h h1 h2 h3 tot vb;unfold aJ
 cases lf
 ·have e:(z:Int)=1+(K.length:Int)*8+(C.length:Int)*2:=by rw[<-hz.o];unfold aI;simp;omega
  rw[e];clear e hz hw;generalize hlk:K.length=lk at *;generalize hlv:V.length=lv at *;generalize hlc:C.length=lc at *;clear HV TOT VB hlk hlv hlc;go_enter Tryz.func132,Tryz.ntmps132;go_wp2_with fail;go_ret;exact⟨rfl,Br.alloc (Nat.le_refl _) _⟩
 ·have hvk:V.length=K.length:=((bG rfl).1 hw).1
  have e:(z:Int)=1+(K.length:Int)*8+(K.length:Int)*1+(bK (V.take V.length):Int):=by rw[<-hz.o];unfold aI;simp;omega
  rw[e];clear e hz hw;have e0:Hid (bK (V.take 0)=0):=Hd rfl;generalize hlk:K.length=lk at *;generalize hlv:V.length=lv at *;generalize hlc:C.length=lc at *;go_enter Tryz.func132,Tryz.ntmps132;go_wp2_with fail
  go_loopw [3,5,29] (fun s v i wr=>∃ j:Nat,j<=lk/\i=.int .i64 (j:Int)/\s=.int .i64 (1+(lk:Int)*8+(lk:Int)+(bK (V.take j):Int))/\wr=w.alloc (.cells #[true,ak lk ck,av lk cv,ac lc cc] 166)) (fun _ _ i _=>lk+1-(intOf i).toNat)
  case atStart=>exact⟨0,Nat.zero_le _,rfl,by rw[e0.o];simp,rfl⟩
  case round=>
   obtain⟨j,hj,rfl,rfl,rfl⟩:=hrel
   by_cases hlt:j<lk
   ·have hji:(j:Int)<(lk:Int):=by omega
    have hjV:j<V.length:=by omega
    obtain⟨b,off,rfl,hb,hcell⟩:=HV.at j (by simp;omega)
    have hcell':(w.alloc (.cells #[true,ak lk ck,.slice (some ⟨b,off,none⟩) lk cv,ac lc cc] 166)).cell? ⟨b,off+j,none⟩=some (.string V[j]):=by
     rw[World.cell?_alloc_lt _ _ _ hb,hcell];simp
    have BT:=Hd (DV V j hjV);have t1:=TOT j;have t2:=VB V[j] (List.getElem_mem hjV);generalize hvj:V[j]=x at *;generalize bK (V.take j)=y at *;clear hcell hb hvj;go_wp2_with fail;go_roundw
    case rel=>exact⟨j+1,by omega,by go_num,by rw[BT.o];go_num,by trivial⟩
    case measure=>simp[intOf];omega
   ·obtain rfl:j=lk:=by omega
    have hji:¬ (j:Int)<(j:Int):=by omega
    go_wp2_with fail;go_ret;exact⟨LD (by subst hvk;omega),Br.alloc (Nat.le_refl _) _⟩
theorem jO {w w1:World}{o:Obj}(b:Below (w.alloc o).heap.size (w.alloc o) w1):w1.heap[w.heap.size]?=some o:=by
 have h1:w.heap.size<(w.alloc o).heap.size:=by simp
 rw[b.block _ h1];exact han w o
theorem fS {w w1:World}{o:Obj}(b:Below (w.alloc o).heap.size (w.alloc o) w1):Below w.heap.size w w1:=
 (Br.alloc (Nat.le_refl _) _).trans (b.mono (by simp))
theorem yB (n:Nod)(ak av ac:Option Addr)(ck cv cc:Nat)(w:World)(h:NodR w n ak av ac ck cv cc)(key:Int)(p:Nat)(ok:Bool)(hp:Hid (bX n key=(p,ok))) :
  () 127 #[aJ n ak av ac ck cv cc,.int .u64 key] w fun e w'=>e=.returned (.tuple #[(p:Int),ok])/\Below w.heap.size w w':=by
 obtain⟨v,hv⟩:∃ v,bH n=v:=⟨_,rfl⟩
 have WH:=Hd (fun w=>gK n ak av ac ck cv cc w h.ok v hv);have HK:=Hd h.k;have hk:=h.ok.k1
 cases v
 ·have hp':=hp.o
  unfold bX at hp';rw[if_neg (by rw[hv];simp)] at hp';obtain⟨rfl,rfl⟩:=Prod.mk.inj hp';clear hp hp' h hv HK;unfold aJ at *;go_enter Tryz.func127,Tryz.ntmps127;go_wp2_with fail
  go_step3
  go_wp2_with fail;refine(WH _).mono ?_;rintro e w1 ⟨rfl,b1⟩;have B:=fS b1;go_wp2_with fail;try rw[Exit.noGoto_ret]
  go_ret2;exact⟨rfl,B⟩
 ·have hp':=hp.o
  unfold bX at hp';rw[if_pos hv] at hp';obtain⟨lf,K,V,C⟩:=n
  dsimp only at hp' HK hk
  have F0:Hid (eM lf key (K.drop 0) 0=(p,ok)):=Hd hp';have FS:=Hd (fun j hj=>CQ lf key K j hj);clear hp hp' h hv;unfold aJ at *
  dsimp only at WH |-
  obtain⟨lk,hlk⟩:∃ lk,K.length=lk:=⟨_,rfl⟩
  rw[hlk] at WH hk |-;generalize V.length=lv at *;generalize C.length=lc at *;go_enter Tryz.func127,Tryz.ntmps127;go_wp2_with fail
  go_step3
  go_wp2_with fail;refine(WH _).mono ?_;rintro e w1 ⟨rfl,b1⟩;have B:=Hd (fS b1);have k1:=jO b1;have k0:=cl k1 0 rfl;have k2:=cl k1 1 rfl;clear k1 b1 WH;have HR:=Hd (HK.below B.o);clear HK;go_wp2_with fail
  go_step3
  go_wp2_with fail
  go_loopw [4,5,6,18] (fun s t q i wr=>∃ j:Nat,j<=lk/\i=.int .i64 (j:Int)/\q=.int .i64 (lk:Int)/\s=.int .i64 0/\t=.bool false/\wr=w1/\eM lf key (K.drop j) j=(p,ok)) (fun _ _ _ i _=>lk+1-(intOf i).toNat)
  case atStart=>exact⟨0,Nat.zero_le _,rfl,rfl,rfl,rfl,rfl,F0.o⟩
  case round=>
   obtain⟨j,hj,rfl,rfl,rfl,rfl,rfl,hfa⟩:=hrel
   by_cases hlt:j<lk
   ·have hji:(j:Int)<(lk:Int):=by omega
    have hjK:j<K.length:=by omega
    rw[FS j hjK] at hfa;obtain⟨b,off,rfl,hb,hcell⟩:=HR.at j (by simpa using hjK);have hcell':wr.cell? ⟨b,off+j,none⟩=some (.int .u64 K[j]):=by rw[hcell];simp[bI]
    clear hcell hb;generalize hx:K[j]=x at *;clear hx
    by_cases h1:x=key
    ·subst h1
     cases lf
     ·rw[if_neg (by simp),if_neg (by omega)] at hfa
      have HFA:=Hd hfa;clear hfa;have q1:¬ x<x:=by omega
      go_wp2_with fail;go_roundw
      case rel=>exact⟨j+1,by omega,by go_num,rfl,rfl,rfl,by trivial,HFA.o⟩
      case measure=>simp[intOf];omega
     ·rw[if_pos ⟨rfl,rfl⟩] at hfa
      obtain⟨rfl,rfl⟩:=Prod.mk.inj hfa;clear hfa F0;go_wp2_with fail;try rw[Exit.noGoto_ret]
      go_ret2;exact⟨rfl,B.o⟩
    ·have q1:(x==key)=false:=by simpa using h1
     rw[if_neg (fun hc=>h1 hc.2)] at hfa
     by_cases h2:key<x
     ·rw[if_pos h2] at hfa
      obtain⟨rfl,rfl⟩:=Prod.mk.inj hfa;clear hfa F0
      cases lf
      ·go_wp2_with fail
       go_quiet (fail)
       go_wp2_with fail;try rw[Exit.noGoto_ret]
       go_ret2;exact⟨rfl,bU B _⟩
      ·go_wp2_with fail
       go_quiet (fail)
       go_wp2_with fail;try rw[Exit.noGoto_ret]
       go_ret2;exact⟨rfl,bU B _⟩
     ·rw[if_neg h2] at hfa
      have HFA:=Hd hfa;clear hfa
      cases lf
      all_goals
       go_wp2_with fail;go_roundw
       case rel=>exact⟨j+1,by omega,by go_num,rfl,rfl,rfl,by trivial,HFA.o⟩
       case measure=>simp[intOf];omega
   ·obtain rfl:j=lk:=by omega
    have hji:¬ (j:Int)<(j:Int):=by omega
    rw[JE lf key K j hlk] at hfa;obtain⟨rfl,rfl⟩:=Prod.mk.inj hfa;clear hfa F0;go_wp2_with fail
    go_quiet (fail)
    go_wp2_with fail;try rw[Exit.noGoto_ret]
    go_ret2;exact⟨rfl,bU B _⟩
structure Src where
 a:Option Addr
 L:List Value
 c:Nat
def Src.val (s:Src):Value:=.slice s.a s.L.length s.c
def aO:List Src->List Value
 | []=>[]
 | s::r=>s.L++aO r
theorem qC (x y:List Src):aO (x++y)=aO x++aO y:=by
 induction x with
 | nil=>rfl
 | cons a x ih=>simp[aO,ih]
theorem oT (l:List Src)(j:Nat)(h:j<l.length):aO (l.take (j+1))=aO (l.take j)++l[j].L:=by
 rw[List.take_succ_eq_append_getElem h,qC];simp[aO]
theorem tX (l:List Src)(j:Nat):(aO (l.take j)).length<=(aO l).length:=by
 have:aO l=aO (l.take j)++aO (l.drop j):=by rw[<-qC,List.take_append_drop]
 rw[this,List.length_append];omega
def aZ (base:Nat)(T:TypeId)(L:List Value)(e:Ending)(w':World):Prop:=∃ v,e=.returned v/\w'.ownsRow base T 1 v L.length L
theorem IU:(Tryz.prog.info? 80).map (fun i=>(i.zero,i.size,i.bytes))=some (some (.int .u64 0),1,8):=by kernel_rfl
theorem aDZ (n:Nat)(w:World)(hn:n<=100000) :
  () 171 #[.slice none 0 0,(n:Int)] w fun e w'=>aZ w.heap.size 80 [] e w'/\Below w.heap.size w w':=by
 obtain⟨i0,hi,hz0,hz1,hz2⟩:=info_parts IU
 by_cases h0:n=0
 ·subst h0
  clear hi hz0 hz1 hz2;go_enter Tryz.func171,Tryz.ntmps171;go_wp2_with fail;go_ret;exact⟨⟨_,rfl,World.ownsRow_nil _ _ _ _⟩,Br⟩
 ·have hp:0<n:=by omega
  have hpi:0<(n:Int):=by omega
  have hA:=Lib.run_append_nil_zeros (P:=Tryz.prog) w 163 3 163 80 i0 (.int .u64 0) .i64 .i64 Tryz.underlying163 Tryz.underlying3 hi hz0 n hp (by omega) (by omega) (by rw[hz2];omega);have hge:=grownCap_ge w n 0 80;have hle:=grownCap_le_maxLen w n 0 80 (by unfold maxLen;omega)
  have hsz:(Builtin.zeroCells (.int .u64 0:Value).cells n++Builtin.zeroCells (.int .u64 0:Value).cells (grownCap w n 0 80-n)).size=grownCap w n 0 80:=by
   rw[Array.size_append,size_zeroCells,size_zeroCells]
   show n*1+(grownCap w n 0 80-n)*1=_
   omega
  generalize Builtin.zeroCells (.int .u64 0:Value).cells n++Builtin.zeroCells (.int .u64 0:Value).cells (grownCap w n 0 80-n)=cs at *;generalize grownCap w n 0 80=cap at *
  have FIN:Hid (aZ w.heap.size 80 [] (.returned (.slice (some ⟨w.heap.size,0,none⟩) 0 cap)) (w.drew.alloc (.cells cs 80))/\Below w.heap.size w (w.drew.alloc (.cells cs 80))):=Hd
   ⟨⟨_,rfl,rfl,.inr ⟨w.heap.size,cap,cs,rfl,Nat.le_refl _,han w.drew _,Nat.zero_le _,hle,by rw[hsz];omega,rfl⟩⟩,(Br.drew).alloc (Nat.le_refl _) _⟩
  have hc0:¬ cap=0:=by omega
  clear hi hz0 hz1 hz2 hge hle hsz h0;have HA:=Hd hA;clear hA;go_enter Tryz.func171,Tryz.ntmps171
  go_wp2_with (at_builtin;refine Lib.wpList_append_run _ rfl _ _ _ _ rfl _ _ rfl rfl _ _ HA ?_)
  go_ret;exact FIN.o
theorem IV:(Tryz.prog.info? 9).map (fun i=>(i.zero,i.size,i.bytes))=some (some (.string ByteArray.empty),1,16):=by kernel_rfl
theorem aD0 (n:Nat)(w:World)(hn:n<=100000) :
  () 172 #[.slice none 0 0,(n:Int)] w fun e w'=>aZ w.heap.size 9 [] e w'/\Below w.heap.size w w':=by
 obtain⟨i0,hi,hz0,hz1,hz2⟩:=info_parts IV
 by_cases h0:n=0
 ·subst h0
  clear hi hz0 hz1 hz2;go_enter Tryz.func172,Tryz.ntmps172;go_wp2_with fail;go_ret;exact⟨⟨_,rfl,World.ownsRow_nil _ _ _ _⟩,Br⟩
 ·have hp:0<n:=by omega
  have hpi:0<(n:Int):=by omega
  have hA:=Lib.run_append_nil_zeros (P:=Tryz.prog) w 164 3 164 9 i0 (.string ByteArray.empty) .i64 .i64 Tryz.underlying164 Tryz.underlying3 hi hz0 n hp (by omega) (by omega) (by rw[hz2];omega);have hge:=grownCap_ge w n 0 9;have hle:=grownCap_le_maxLen w n 0 9 (by unfold maxLen;omega)
  have hsz:(Builtin.zeroCells (.string ByteArray.empty:Value).cells n++Builtin.zeroCells (.string ByteArray.empty:Value).cells (grownCap w n 0 9-n)).size=grownCap w n 0 9:=by
   rw[Array.size_append,size_zeroCells,size_zeroCells]
   show n*1+(grownCap w n 0 9-n)*1=_
   omega
  generalize Builtin.zeroCells (.string ByteArray.empty:Value).cells n++Builtin.zeroCells (.string ByteArray.empty:Value).cells (grownCap w n 0 9-n)=cs at *;generalize grownCap w n 0 9=cap at *
  have FIN:Hid (aZ w.heap.size 9 [] (.returned (.slice (some ⟨w.heap.size,0,none⟩) 0 cap)) (w.drew.alloc (.cells cs 9))/\Below w.heap.size w (w.drew.alloc (.cells cs 9))):=Hd
   ⟨⟨_,rfl,rfl,.inr ⟨w.heap.size,cap,cs,rfl,Nat.le_refl _,han w.drew _,Nat.zero_le _,hle,by rw[hsz];omega,rfl⟩⟩,(Br.drew).alloc (Nat.le_refl _) _⟩
  have hc0:¬ cap=0:=by omega
  clear hi hz0 hz1 hz2 hge hle hsz h0;have HA:=Hd hA;clear hA;go_enter Tryz.func172,Tryz.ntmps172
  go_wp2_with (at_builtin;refine Lib.wpList_append_run _ rfl _ _ _ _ rfl _ _ rfl rfl _ _ HA ?_)
  go_ret;exact FIN.o
theorem IW:(Tryz.prog.info? 3).map (fun i=>(i.zero,i.size,i.bytes))=some (some (.int .i64 0),1,8):=by kernel_rfl
theorem aD1 (n:Nat)(w:World)(hn:n<=100000) :
  () 191 #[.slice none 0 0,(n:Int)] w fun e w'=>aZ w.heap.size 3 [] e w'/\Below w.heap.size w w':=by
 obtain⟨i0,hi,hz0,hz1,hz2⟩:=info_parts IW
 by_cases h0:n=0
 ·subst h0
  clear hi hz0 hz1 hz2;go_enter Tryz.func191,Tryz.ntmps191;go_wp2_with fail;go_ret;exact⟨⟨_,rfl,World.ownsRow_nil _ _ _ _⟩,Br⟩
 ·have hp:0<n:=by omega
  have hpi:0<(n:Int):=by omega
  have hA:=Lib.run_append_nil_zeros (P:=Tryz.prog) w 36 3 36 3 i0 (.int .i64 0) .i64 .i64 Tryz.underlying36 Tryz.underlying3 hi hz0 n hp (by omega) (by omega) (by rw[hz2];omega);have hge:=grownCap_ge w n 0 3;have hle:=grownCap_le_maxLen w n 0 3 (by unfold maxLen;omega)
  have hsz:(Builtin.zeroCells (.int .i64 0:Value).cells n++Builtin.zeroCells (.int .i64 0:Value).cells (grownCap w n 0 3-n)).size=grownCap w n 0 3:=by
   rw[Array.size_append,size_zeroCells,size_zeroCells]
   show n*1+(grownCap w n 0 3-n)*1=_
   omega
  generalize Builtin.zeroCells (.int .i64 0:Value).cells n++Builtin.zeroCells (.int .i64 0:Value).cells (grownCap w n 0 3-n)=cs at *;generalize grownCap w n 0 3=cap at *
  have FIN:Hid (aZ w.heap.size 3 [] (.returned (.slice (some ⟨w.heap.size,0,none⟩) 0 cap)) (w.drew.alloc (.cells cs 3))/\Below w.heap.size w (w.drew.alloc (.cells cs 3))):=Hd
   ⟨⟨_,rfl,rfl,.inr ⟨w.heap.size,cap,cs,rfl,Nat.le_refl _,han w.drew _,Nat.zero_le _,hle,by rw[hsz];omega,rfl⟩⟩,(Br.drew).alloc (Nat.le_refl _) _⟩
  have hc0:¬ cap=0:=by omega
  clear hi hz0 hz1 hz2 hge hle hsz h0;have HA:=Hd hA;clear hA;go_enter Tryz.func191,Tryz.ntmps191
  go_wp2_with (at_builtin;refine Lib.wpList_append_run _ rfl _ _ _ _ rfl _ _ rfl rfl _ _ HA ?_)
  go_ret;exact FIN.o
theorem uH (al:Option Addr)(cl:Nat)(l:List Src)(w:World)(hl:Rd w al (l.map Src.val))(hs:∀ s∈l,Rd w s.a s.L)(h1:∀ s∈l,∀ u∈s.L,u.oneCell'=true)(hf:(aO l).length<=100000)(hm:l.length<=1000) :
  () 151 #[al l.length cl] w fun e w'=>aZ w.heap.size 80 (aO l) e w'/\Below w.heap.size w w':=by
 obtain⟨i0,hi,hz0,hz1,hz2⟩:=info_parts IU;have HL:=Hd hl;have HS:=Hd hs;have H1:=Hd h1;have HT:=Hd (oT l);have HF:=Hd (fun j=>Nat.le_trans (tX l j) hf);have F0:Hid ((aO (l.take 0)).length=0):=Hd rfl;have G:=Hd (fun n w (h:n<=100000)=>aDZ n w h);have APP:=Hd (fun(wr:World) v n xs hown a L c hr h1 h63 hb hbase=>qZ (P:=Tryz.prog) wr w.heap.size 163 163 80 i0 (.int .u64 0) 8 Tryz.underlying163 hi hz0 hz1 hz2 rfl v n xs hown a L c hr h1 h63 hb hbase);obtain⟨m,hm'⟩:∃ m,l.length=m:=⟨_,rfl⟩
 rw[hm'] at hm |-;clear hl hs h1 hf hi hz0 hz1 hz2;go_enter Tryz.func151,Tryz.ntmps151;go_wp2_with fail
 go_loop [3,11] (fun s i=>∃ j:Nat,j<=m/\i=.int .i64 (j:Int)/\s=.int .i64 ((aO (l.take j)).length:Int)) (fun _ i=>m+1-(intOf i).toNat)
 case atStart=>exact⟨0,Nat.zero_le _,rfl,by rw[F0.o];rfl⟩
 case round=>
  obtain⟨j,hj,rfl,rfl⟩:=hrel
  by_cases hlt:j<m
  ·have hji:(j:Int)<(m:Int):=by omega
   have hjl:j<l.length:=by omega
   obtain⟨b,off,rfl,hb,hcell⟩:=HL.at j (by simpa using hjl);have hcell':w.cell? ⟨b,off+j,none⟩=some (.slice l[j].a l[j].L.length l[j].c):=by rw[hcell];simp[Src.val]
   have BT:=Hd (HT j hjl);have t1:=HF (j+1);rw[BT.o,List.length_append] at t1;clear hcell hb;generalize hx:l[j]=x at *;obtain⟨xa,xL,xc⟩:=x
   dsimp only at hcell' t1 BT
   clear hx;generalize hy:(aO (l.take j)).length=y at *;generalize hz:xL.length=z at *;go_wp2_with fail
   go_round
   case rel=>exact⟨j+1,by omega,by go_num,by rw[BT.o,List.length_append,hy,hz];go_num⟩
   case measure=>simp[intOf];omega
  ·obtain rfl:j=m:=by omega
   have hji:¬ (j:Int)<(j:Int):=by omega
   have t1:=HF j;have hyb:Hid (aO (l.take j)=aO l):=Hd (by rw[List.take_of_length_le (by omega)]);go_wp2_with fail;refine(G _ w t1).mono ?_;rintro e w1 ⟨⟨v0,rfl,hv0⟩,b1⟩;have B0:=Hd b1;have O0:=Hd hv0;clear b1 hv0 t1;go_wp2_with fail
   go_loopw [6,27] (fun v i wr=>∃ k:Nat,k<=j/\i=.int .i64 (k:Int)/\wr.ownsRow w.heap.size 80 1 v (aO (l.take k)).length (aO (l.take k))/\Below w.heap.size w wr) (fun _ i _=>j+1-(intOf i).toNat)
   case atStart=>exact⟨0,Nat.zero_le _,rfl,O0.o,B0.o⟩
   case round=>
    obtain⟨k,hk,rfl,hown,hbel⟩:=hrel
    by_cases hlt2:k<j
    ·have hki:(k:Int)<(j:Int):=by omega
     have hkl:k<l.length:=by omega
     have HB:=Hd hbel;obtain⟨b,off,rfl,hb,hcell⟩:=(HL.below hbel).at k (by simpa using hkl);have hcell':wr.cell? ⟨b,off+k,none⟩=some (.slice l[k].a l[k].L.length l[k].c):=by rw[hcell];simp[Src.val]
     have BT:=Hd (HT k hkl);have t1:=HF (k+1);rw[BT.o,List.length_append] at t1;obtain⟨v',w5,hap,hown',hgr⟩:=APP wr _ _ _ hown l[k].a l[k].L l[k].c ((HS _ (List.getElem_mem hkl)).below hbel) (H1 _ (List.getElem_mem hkl)) (by unfold maxLen;omega) (by omega) hbel.size;have O5:=Hd hown';have B5:=Hd (hbel.grown hgr hbel.size (fun q hq=>(hown.lt q hq).1));have HA:=Hd hap;clear hcell hb hap hown' hgr hown hbel HB
     go_wp2_with (at_builtin;refine Lib.wpList_append_run _ rfl _ _ _ _ rfl _ _ rfl rfl _ _ HA ?_)
     go_roundw
     case rel=>exact⟨k+1,by omega,by go_num,by rw[BT.o,List.length_append];exact O5.o,B5.o⟩
     case measure=>simp[intOf];omega
    ·obtain rfl:k=j:=by omega
     have hki:¬ (k:Int)<(k:Int):=by omega
     have FIN:Hid (aZ w.heap.size 80 (aO l) (.returned _) wr/\Below w.heap.size w wr):=Hd ⟨⟨_,rfl,by rw[<-hyb.o];exact hown⟩,hbel⟩;clear hown hbel;go_wp2_with fail;go_ret;exact FIN.o
theorem YD (al:Option Addr)(cl:Nat)(l:List Src)(w:World)(hl:Rd w al (l.map Src.val))(hs:∀ s∈l,Rd w s.a s.L)(h1:∀ s∈l,∀ u∈s.L,u.oneCell'=true)(hf:(aO l).length<=100000)(hm:l.length<=1000) :
  () 130 #[al l.length cl] w fun e w'=>aZ w.heap.size 80 (aO l) e w'/\Below w.heap.size w w':=by
 have C:=Hd (uH al cl l w hl hs h1 hf hm);obtain⟨m,hm'⟩:∃ m,l.length=m:=⟨_,rfl⟩
 rw[hm'] at C |-;clear hl hs h1 hf;go_enter Tryz.func130,Tryz.ntmps130;go_wp2_with fail;refine C.mono ?_;rintro e w1 ⟨⟨v0,rfl,hv0⟩,b1⟩;have O0:=Hd hv0;clear hv0;go_wp2_with fail;go_ret;exact⟨⟨_,rfl,O0.o⟩,b1⟩
theorem DJ (al:Option Addr)(cl:Nat)(l:List Src)(w:World)(hl:Rd w al (l.map Src.val))(hs:∀ s∈l,Rd w s.a s.L)(h1:∀ s∈l,∀ u∈s.L,u.oneCell'=true)(hf:(aO l).length<=100000)(hm:l.length<=1000) :
  () 152 #[al l.length cl] w fun e w'=>aZ w.heap.size 9 (aO l) e w'/\Below w.heap.size w w':=by
 obtain⟨i0,hi,hz0,hz1,hz2⟩:=info_parts IV;have HL:=Hd hl;have HS:=Hd hs;have H1:=Hd h1;have HT:=Hd (oT l);have HF:=Hd (fun j=>Nat.le_trans (tX l j) hf);have F0:Hid ((aO (l.take 0)).length=0):=Hd rfl;have G:=Hd (fun n w (h:n<=100000)=>aD0 n w h);have APP:=Hd (fun(wr:World) v n xs hown a L c hr h1 h63 hb hbase=>qZ (P:=Tryz.prog) wr w.heap.size 164 164 9 i0 (.string ByteArray.empty) 16 Tryz.underlying164 hi hz0 hz1 hz2 rfl v n xs hown a L c hr h1 h63 hb hbase);obtain⟨m,hm'⟩:∃ m,l.length=m:=⟨_,rfl⟩
 rw[hm'] at hm |-;clear hl hs h1 hf hi hz0 hz1 hz2;go_enter Tryz.func152,Tryz.ntmps152;go_wp2_with fail
 go_loop [3,11] (fun s i=>∃ j:Nat,j<=m/\i=.int .i64 (j:Int)/\s=.int .i64 ((aO (l.take j)).length:Int)) (fun _ i=>m+1-(intOf i).toNat)
 case atStart=>exact⟨0,Nat.zero_le _,rfl,by rw[F0.o];rfl⟩
 case round=>
  obtain⟨j,hj,rfl,rfl⟩:=hrel
  by_cases hlt:j<m
  ·have hji:(j:Int)<(m:Int):=by omega
   have hjl:j<l.length:=by omega
   obtain⟨b,off,rfl,hb,hcell⟩:=HL.at j (by simpa using hjl);have hcell':w.cell? ⟨b,off+j,none⟩=some (.slice l[j].a l[j].L.length l[j].c):=by rw[hcell];simp[Src.val]
   have BT:=Hd (HT j hjl);have t1:=HF (j+1);rw[BT.o,List.length_append] at t1;clear hcell hb;generalize hx:l[j]=x at *;obtain⟨xa,xL,xc⟩:=x
   dsimp only at hcell' t1 BT
   clear hx;generalize hy:(aO (l.take j)).length=y at *;generalize hz:xL.length=z at *;go_wp2_with fail
   go_round
   case rel=>exact⟨j+1,by omega,by go_num,by rw[BT.o,List.length_append,hy,hz];go_num⟩
   case measure=>simp[intOf];omega
  ·obtain rfl:j=m:=by omega
   have hji:¬ (j:Int)<(j:Int):=by omega
   have t1:=HF j;have hyb:Hid (aO (l.take j)=aO l):=Hd (by rw[List.take_of_length_le (by omega)]);go_wp2_with fail;refine(G _ w t1).mono ?_;rintro e w1 ⟨⟨v0,rfl,hv0⟩,b1⟩;have B0:=Hd b1;have O0:=Hd hv0;clear b1 hv0 t1;go_wp2_with fail
   go_loopw [6,27] (fun v i wr=>∃ k:Nat,k<=j/\i=.int .i64 (k:Int)/\wr.ownsRow w.heap.size 9 1 v (aO (l.take k)).length (aO (l.take k))/\Below w.heap.size w wr) (fun _ i _=>j+1-(intOf i).toNat)
   case atStart=>exact⟨0,Nat.zero_le _,rfl,O0.o,B0.o⟩
   case round=>
    obtain⟨k,hk,rfl,hown,hbel⟩:=hrel
    by_cases hlt2:k<j
    ·have hki:(k:Int)<(j:Int):=by omega
     have hkl:k<l.length:=by omega
     have HB:=Hd hbel;obtain⟨b,off,rfl,hb,hcell⟩:=(HL.below hbel).at k (by simpa using hkl);have hcell':wr.cell? ⟨b,off+k,none⟩=some (.slice l[k].a l[k].L.length l[k].c):=by rw[hcell];simp[Src.val]
     have BT:=Hd (HT k hkl);have t1:=HF (k+1);rw[BT.o,List.length_append] at t1;obtain⟨v',w5,hap,hown',hgr⟩:=APP wr _ _ _ hown l[k].a l[k].L l[k].c ((HS _ (List.getElem_mem hkl)).below hbel) (H1 _ (List.getElem_mem hkl)) (by unfold maxLen;omega) (by omega) hbel.size;have O5:=Hd hown';have B5:=Hd (hbel.grown hgr hbel.size (fun q hq=>(hown.lt q hq).1));have HA:=Hd hap;clear hcell hb hap hown' hgr hown hbel HB
     go_wp2_with (at_builtin;refine Lib.wpList_append_run _ rfl _ _ _ _ rfl _ _ rfl rfl _ _ HA ?_)
     go_roundw
     case rel=>exact⟨k+1,by omega,by go_num,by rw[BT.o,List.length_append];exact O5.o,B5.o⟩
     case measure=>simp[intOf];omega
    ·obtain rfl:k=j:=by omega
     have hki:¬ (k:Int)<(k:Int):=by omega
     have FIN:Hid (aZ w.heap.size 9 (aO l) (.returned _) wr/\Below w.heap.size w wr):=Hd ⟨⟨_,rfl,by rw[<-hyb.o];exact hown⟩,hbel⟩;clear hown hbel;go_wp2_with fail;go_ret;exact FIN.o
theorem YE (al:Option Addr)(cl:Nat)(l:List Src)(w:World)(hl:Rd w al (l.map Src.val))(hs:∀ s∈l,Rd w s.a s.L)(h1:∀ s∈l,∀ u∈s.L,u.oneCell'=true)(hf:(aO l).length<=100000)(hm:l.length<=1000) :
  () 131 #[al l.length cl] w fun e w'=>aZ w.heap.size 9 (aO l) e w'/\Below w.heap.size w w':=by
 have C:=Hd (DJ al cl l w hl hs h1 hf hm);obtain⟨m,hm'⟩:∃ m,l.length=m:=⟨_,rfl⟩
 rw[hm'] at C |-;clear hl hs h1 hf;go_enter Tryz.func131,Tryz.ntmps131;go_wp2_with fail;refine C.mono ?_;rintro e w1 ⟨⟨v0,rfl,hv0⟩,b1⟩;have O0:=Hd hv0;clear hv0;go_wp2_with fail;go_ret;exact⟨⟨_,rfl,O0.o⟩,b1⟩
theorem DK (al:Option Addr)(cl:Nat)(l:List Src)(w:World)(hl:Rd w al (l.map Src.val))(hs:∀ s∈l,Rd w s.a s.L)(h1:∀ s∈l,∀ u∈s.L,u.oneCell'=true)(hf:(aO l).length<=100000)(hm:l.length<=1000) :
  () 175 #[al l.length cl] w fun e w'=>aZ w.heap.size 3 (aO l) e w'/\Below w.heap.size w w':=by
 obtain⟨i0,hi,hz0,hz1,hz2⟩:=info_parts IW;have HL:=Hd hl;have HS:=Hd hs;have H1:=Hd h1;have HT:=Hd (oT l);have HF:=Hd (fun j=>Nat.le_trans (tX l j) hf);have F0:Hid ((aO (l.take 0)).length=0):=Hd rfl;have G:=Hd (fun n w (h:n<=100000)=>aD1 n w h);have APP:=Hd (fun(wr:World) v n xs hown a L c hr h1 h63 hb hbase=>qZ (P:=Tryz.prog) wr w.heap.size 36 36 3 i0 (.int .i64 0) 8 Tryz.underlying36 hi hz0 hz1 hz2 rfl v n xs hown a L c hr h1 h63 hb hbase);obtain⟨m,hm'⟩:∃ m,l.length=m:=⟨_,rfl⟩
 rw[hm'] at hm |-;clear hl hs h1 hf hi hz0 hz1 hz2;go_enter Tryz.func175,Tryz.ntmps175;go_wp2_with fail
 go_loop [3,11] (fun s i=>∃ j:Nat,j<=m/\i=.int .i64 (j:Int)/\s=.int .i64 ((aO (l.take j)).length:Int)) (fun _ i=>m+1-(intOf i).toNat)
 case atStart=>exact⟨0,Nat.zero_le _,rfl,by rw[F0.o];rfl⟩
 case round=>
  obtain⟨j,hj,rfl,rfl⟩:=hrel
  by_cases hlt:j<m
  ·have hji:(j:Int)<(m:Int):=by omega
   have hjl:j<l.length:=by omega
   obtain⟨b,off,rfl,hb,hcell⟩:=HL.at j (by simpa using hjl);have hcell':w.cell? ⟨b,off+j,none⟩=some (.slice l[j].a l[j].L.length l[j].c):=by rw[hcell];simp[Src.val]
   have BT:=Hd (HT j hjl);have t1:=HF (j+1);rw[BT.o,List.length_append] at t1;clear hcell hb;generalize hx:l[j]=x at *;obtain⟨xa,xL,xc⟩:=x
   dsimp only at hcell' t1 BT
   clear hx;generalize hy:(aO (l.take j)).length=y at *;generalize hz:xL.length=z at *;go_wp2_with fail
   go_round
   case rel=>exact⟨j+1,by omega,by go_num,by rw[BT.o,List.length_append,hy,hz];go_num⟩
   case measure=>simp[intOf];omega
  ·obtain rfl:j=m:=by omega
   have hji:¬ (j:Int)<(j:Int):=by omega
   have t1:=HF j;have hyb:Hid (aO (l.take j)=aO l):=Hd (by rw[List.take_of_length_le (by omega)]);go_wp2_with fail;refine(G _ w t1).mono ?_;rintro e w1 ⟨⟨v0,rfl,hv0⟩,b1⟩;have B0:=Hd b1;have O0:=Hd hv0;clear b1 hv0 t1;go_wp2_with fail
   go_loopw [6,27] (fun v i wr=>∃ k:Nat,k<=j/\i=.int .i64 (k:Int)/\wr.ownsRow w.heap.size 3 1 v (aO (l.take k)).length (aO (l.take k))/\Below w.heap.size w wr) (fun _ i _=>j+1-(intOf i).toNat)
   case atStart=>exact⟨0,Nat.zero_le _,rfl,O0.o,B0.o⟩
   case round=>
    obtain⟨k,hk,rfl,hown,hbel⟩:=hrel
    by_cases hlt2:k<j
    ·have hki:(k:Int)<(j:Int):=by omega
     have hkl:k<l.length:=by omega
     have HB:=Hd hbel;obtain⟨b,off,rfl,hb,hcell⟩:=(HL.below hbel).at k (by simpa using hkl);have hcell':wr.cell? ⟨b,off+k,none⟩=some (.slice l[k].a l[k].L.length l[k].c):=by rw[hcell];simp[Src.val]
     have BT:=Hd (HT k hkl);have t1:=HF (k+1);rw[BT.o,List.length_append] at t1;obtain⟨v',w5,hap,hown',hgr⟩:=APP wr _ _ _ hown l[k].a l[k].L l[k].c ((HS _ (List.getElem_mem hkl)).below hbel) (H1 _ (List.getElem_mem hkl)) (by unfold maxLen;omega) (by omega) hbel.size;have O5:=Hd hown';have B5:=Hd (hbel.grown hgr hbel.size (fun q hq=>(hown.lt q hq).1));have HA:=Hd hap;clear hcell hb hap hown' hgr hown hbel HB
     go_wp2_with (at_builtin;refine Lib.wpList_append_run _ rfl _ _ _ _ rfl _ _ rfl rfl _ _ HA ?_)
     go_roundw
     case rel=>exact⟨k+1,by omega,by go_num,by rw[BT.o,List.length_append];exact O5.o,B5.o⟩
     case measure=>simp[intOf];omega
    ·obtain rfl:k=j:=by omega
     have hki:¬ (k:Int)<(k:Int):=by omega
     have FIN:Hid (aZ w.heap.size 3 (aO l) (.returned _) wr/\Below w.heap.size w wr):=Hd ⟨⟨_,rfl,by rw[<-hyb.o];exact hown⟩,hbel⟩;clear hown hbel;go_wp2_with fail;go_ret;exact FIN.o
theorem aD2 (al:Option Addr)(cl:Nat)(l:List Src)(w:World)(hl:Rd w al (l.map Src.val))(hs:∀ s∈l,Rd w s.a s.L)(h1:∀ s∈l,∀ u∈s.L,u.oneCell'=true)(hf:(aO l).length<=100000)(hm:l.length<=1000) :
  () 162 #[al l.length cl] w fun e w'=>aZ w.heap.size 3 (aO l) e w'/\Below w.heap.size w w':=by
 have C:=Hd (DK al cl l w hl hs h1 hf hm);obtain⟨m,hm'⟩:∃ m,l.length=m:=⟨_,rfl⟩
 rw[hm'] at C |-;clear hl hs h1 hf;go_enter Tryz.func162,Tryz.ntmps162;go_wp2_with fail;refine C.mono ?_;rintro e w1 ⟨⟨v0,rfl,hv0⟩,b1⟩;have O0:=Hd hv0;clear hv0;go_wp2_with fail;go_ret;exact⟨⟨_,rfl,O0.o⟩,b1⟩
section
variable {P:Program} {ops:Array Oper} {Q:Exit->Act->World->Prop} {md:Region.Mode}
def jW (md:Region.Mode)(o:Oper)(j:Nat):Bool:=o.after.any fun e=>Region.binds md e&&e.on==j
def sG (md:Region.Mode)(ops:Array Oper):List Nat->List Nat->Bool
  | _,[]=>true
  | seen,i::r=>seen.any (fun j=>match ops[j]? with|some o=>jW md o i|none=>false)&&sG md ops (i::seen) r
def iZ (md:Region.Mode)(f n:Nat):List Oper->Nat->List Nat->Bool
  | [],_,_=>true
  | o::r,i,seen=>
    (o.after.all fun e=>!Region.binds md e || decide (e.on<i)) &&
    (if i=f then iZ md f n r (i+1) seen
     else match o.dst with
      | none=>iZ md f n r (i+1) seen
      | some d=>!seen.contains d&&decide (d<n)&&iZ md f n r (i+1) (d::seen))
def lQ (md:Region.Mode)(ops:Array Oper)(f n:Nat):Bool:=
  iZ md f n ops.toList 0 []&&(!decide (f<ops.size) || sG md ops [f] ((List.range ops.size).reverse.filter fun i=>i != f))
def rE (ops:Array Oper)(f t:Nat):Prop:=∀ i o,ops[i]?=some o->i≠f->o.dst≠some t
theorem uR {f n:Nat}:∀ (l:List Oper) (i:Nat) (seen:List Nat),iZ md f n l i seen=true->∀ j o,l[j]?=some o->∀ e∈o.after,Region.binds md e=true->e.on<i+j:=by
  intro l
  induction l with
  | nil=>intro i seen _ j o h;simp at h
  | cons p r ih=>
    intro i seen h j o hj e he hb;unfold iZ at h;rw[Bool.and_eq_true] at h
    cases j with
    | zero=>
      have:p=o:=by simpa using hj
      subst this;have:=Array.all_eq_true_iff_forall_mem.1 h.1 e he;rw[hb] at this
      simpa using this
    | succ j=>
      have hr:∃ s,iZ md f n r (i+1) s=true:=by
        have h2:=h.2
        split at h2
        · exact⟨_,h2⟩
        · split at h2
          · exact⟨_,h2⟩
          · rw[Bool.and_eq_true] at h2;exact⟨_,h2.2⟩
      obtain⟨s,hs⟩:=hr;have:=ih (i+1) s hs j o (by simpa using hj) e he hb;omega
theorem zZ {f n:Nat}:∀ (l:List Oper) (i:Nat) (seen:List Nat),iZ md f n l i seen=true ->
    ∀ j o d,l[j]?=some o->i+j≠f->o.dst=some d->d<n/\d ∉ seen/\∀ k q,k<j->l[k]?=some q->i+k≠f->q.dst≠some d:=by
  intro l
  induction l with
  | nil=>intro i seen _ j o d h;simp at h
  | cons p r ih=>
    intro i seen h j o d hj hf hd;unfold iZ at h;rw[Bool.and_eq_true] at h;have h2:=h.2;clear h
    cases j with
    | zero=>
      have:p=o:=by simpa using hj
      subst this;rw[if_neg (by simpa using hf),hd] at h2;simp only[Bool.and_eq_true,Bool.not_eq_true',decide_eq_true_eq] at h2;refine⟨h2.1.2,?_,fun k q hk=>absurd hk (Nat.not_lt_zero _)⟩;have:=h2.1.1
      simpa using this
    | succ j=>
      have hj':r[j]?=some o:=by simpa using hj
      by_cases hif:i=f
      · rw[if_pos hif] at h2;obtain⟨a1,a2,a3⟩:=ih (i+1) seen h2 j o d hj' (by omega) hd;refine⟨a1,a2,fun k q hk hq hkf=>?_⟩
        cases k with
        | zero=>exact absurd hif (by simpa using hkf)
        | succ k=>exact a3 k q (by omega) (by simpa using hq) (by omega)
      · rw[if_neg hif] at h2
        cases hpd:p.dst with
        | none=>
          rw[hpd] at h2;obtain⟨a1,a2,a3⟩:=ih (i+1) seen h2 j o d hj' (by omega) hd;refine⟨a1,a2,fun k q hk hq hkf=>?_⟩
          cases k with
          | zero=>
            have:p=q:=by simpa using hq
            subst this;rw[hpd];simp
          | succ k=>exact a3 k q (by omega) (by simpa using hq) (by omega)
        | some d0=>
          rw[hpd] at h2;simp only[Bool.and_eq_true] at h2;obtain⟨a1,a2,a3⟩:=ih (i+1) (d0::seen) h2.2 j o d hj' (by omega) hd;rw[List.mem_cons,not_or] at a2;refine⟨a1,a2.2,fun k q hk hq hkf=>?_⟩
          cases k with
          | zero=>
            have:p=q:=by simpa using hq
            subst this;rw[hpd];exact fun e=>a2.1 (Option.some.inj e).symm
          | succ k=>exact a3 k q (by omega) (by simpa using hq) (by omega)
theorem JD {f n:Nat}(h:lQ md ops f n=true):(∀ i o d,ops[i]?=some o->i≠f->o.dst=some d->d<n)/\∀ i j p q d,ops[i]?=some p->ops[j]?=some q->i≠f->j≠f->p.dst=some d->q.dst=some d->i=j:=by
  unfold lQ at h;rw[Bool.and_eq_true] at h;have hs:=zZ ops.toList 0 [] h.1
  have key:∀ i o d,ops[i]?=some o->i≠f->o.dst=some d->d<n/\d ∉ ([]:List Nat)/\∀ k q,k<i->ops[k]?=some q->k≠f->q.dst≠some d:=by
    intro i o d hi hf hd;have:=hs i o d (by simpa using hi) (by omega) hd;exact⟨this.1,this.2.1,fun k q hk hq hkf=>this.2.2 k q hk (by simpa using hq) (by omega)⟩
  refine⟨fun i o d hi hf hd=>(key i o d hi hf hd).1,fun i j p q d hi hj hif hjf hp hq=>?_⟩
  rcases Nat.lt_trichotomy i j with hlt|heq|hgt
  · exact absurd hp ((key j q d hj hjf hq).2.2 i p hlt hi hif)
  · exact heq
  · exact absurd hq ((key i p d hi hif hp).2.2 j q hgt hj hjf)
theorem yA {f n:Nat}(h:lQ md ops f n=true):∀ i o,ops[i]?=some o->∀ e∈o.after,Region.binds md e=true->e.on<i:=by
  unfold lQ at h;rw[Bool.and_eq_true] at h;intro i o hi e he hb;have:=uR ops.toList 0 [] h.1 i o (by simpa using hi) e he hb;omega
theorem yQ {listed:Array Bool}{f:Nat}(hc:∀ i o,ops[i]?=some o->listed.getD i false=true->∀ e∈o.after,Region.binds md e=true->listed.getD e.on false=true)
    (hf:∀ o,ops[f]?=some o->∀ e∈o.after,Region.binds md e=true->listed.getD e.on false=true) :
    ∀ (todo seen:List Nat),sG md ops seen todo=true->(∀ j∈seen,j=f\/listed.getD j false=true)->∀ i∈todo,listed.getD i false=true:=by
  intro todo
  induction todo with
  | nil=>intro seen _ _ i hi;cases hi
  | cons t r ih=>
    intro seen h hs i hi;unfold sG at h;rw[Bool.and_eq_true] at h
    have ht:listed.getD t false=true:=by
      obtain⟨j,hj,hw⟩:=List.any_eq_true.1 h.1
      cases ho:ops[j]? with
      | none=>rw[ho] at hw;cases hw
      | some o=>
        rw[ho] at hw;obtain⟨k,hk,he⟩:=Array.any_eq_true.1 hw;rw[Bool.and_eq_true,beq_iff_eq] at he
        rcases hs j hj with rfl|hl
        · have:=hf o ho _ (Array.getElem_mem hk) he.1;rwa [he.2] at this
        · have:=hc j o ho hl _ (Array.getElem_mem hk) he.1;rwa [he.2] at this
    rcases List.mem_cons.1 hi with rfl|hi
    · exact ht
    · exact ih (t::seen) h.2 (fun j hj=>by rcases List.mem_cons.1 hj with rfl|hj;exact .inr ht;exact hs j hj) i hi
structure aC1 (md:Region.Mode)(ops:Array Oper)(f:Nat)(I:Nat->Value->World->Prop)(S:World->Prop)(a0:Act)(b:Array Bool)(a:Act)(w:World):Prop where
  s:S w
  size:a.tmps.size=a0.tmps.size
  defers:a.defers=a0.defers
  old:∀ t,rE ops f t->a.tmps.getD t undef=a0.tmps.getD t undef
  bsize:b.size=ops.size
  closed:∀ i o,ops[i]?=some o->b.getD i false=true->∀ e∈o.after,Region.binds md e=true->b.getD e.on false=true
  done:∀ i o d,ops[i]?=some o->i≠f->b.getD i false=true->o.dst=some d->I i (a.tmps.getD d undef) w
def aCZ (P:Program)(md:Region.Mode)(ops:Array Oper)(f:Nat)(Q:Exit->Act->World->Prop)(I:Nat->Value->World->Prop)(S:World->Prop)(R:World->World->Prop)(a0:Act)(i:Nat):Prop:=
  ∀ o,ops[i]?=some o->∀ a w,S w->(∀ t,rE ops f t->a.tmps.getD t undef=a0.tmps.getD t undef) ->
    (∀ j q d,ops[j]?=some q->jW md o j=true->q.dst=some d->I j (a.tmps.getD d undef) w) ->
    ∀ K:Act->World->Prop,(∀ v w',I i v w'->R w w'->K (a.put o.dst v) w')->if Region.wanted o (yielded ops a.tmps)=true then Oper.wp P o a w K Q else K (a.put o.dst undef) w
theorem oH (b:Array Bool)(i:Nat)(h:i<b.size):(b.setIfInBounds i true).getD i false=true:=by
  rw[Array.getD_eq_getD_getElem?,Array.getElem?_setIfInBounds];simp[h]
theorem fK (b:Array Bool)(i j:Nat)(h:i≠j)(z:Bool):(b.setIfInBounds i true).getD j z=b.getD j z:=by
  rw[Array.getD_eq_getD_getElem?,Array.getD_eq_getD_getElem?,Array.getElem?_setIfInBounds_ne h]
theorem dO {b:Array Bool}{i:Nat}(h:b.getD i true=false):b.getD i false=false/\i<b.size:=by
  rw[Array.getD_eq_getD_getElem?] at h |-
  by_cases hi:i<b.size
  · rw[Array.getElem?_eq_getElem hi] at h |-;exact⟨h,hi⟩
  · rw[Array.getElem?_eq_none (by omega)] at h
    cases h
theorem TY {o:Oper}{j:Nat}(h:jW md o j=true):∃ e∈o.after,Region.binds md e=true/\e.on=j:=by
  obtain⟨k,hk,he⟩:=Array.any_eq_true.1 h;rw[Bool.and_eq_true,beq_iff_eq] at he;exact⟨_,Array.getElem_mem hk,he.1,he.2⟩
def rF (b:Array Bool):Nat:=b.toList.countP id
theorem OJ {b:Array Bool}{i:Nat}(h:b.getD i true=false):rF (b.setIfInBounds i true)=rF b+1:=by
  obtain⟨hf,hi⟩:=dO h
  have hv:b.toList[i]'(by simpa using hi)=false:=by
    rw[Array.getD_eq_getD_getElem?,Array.getElem?_eq_getElem hi] at hf
    simpa using hf
  unfold rF;rw[Array.toList_setIfInBounds,List.countP_set (by simpa using hi),hv];simp
theorem OK {b:Array Bool}(h:rF b=b.size)(i:Nat)(hi:i<b.size):b.getD i false=true:=by
  unfold rF at h;have:=(List.countP_eq_length.1 (by rw[h,Array.length_toList])) (b.toList[i]'(by simpa using hi)) (List.getElem_mem _)
  rw[Array.getD_eq_getD_getElem?,Array.getElem?_eq_getElem hi]
  simpa using this
theorem SJ {f n i:Nat}{I:Nat->Value->World->Prop}{S:World->Prop}{R:World->World->Prop}{a0:Act}{b:Array Bool}{a:Act}{w:World}(hok:lQ md ops f n=true)(hn:a0.tmps.size=n)
    (hI:∀ j v w w',I j v w->R w w'->I j v w')(hS:∀ w w',S w->R w w'->S w')(h:aC1 md ops f I S a0 b a w){o:Oper}(ho:ops[i]?=some o)(hif:i≠f)(hr:i∈Region.ready md ops b){v:Value}{w':World}(hv:I i v w')(hR:R w w') :
    aC1 md ops f I S a0 (b.setIfInBounds i true) (a.put o.dst v) w':=by
  obtain⟨hd1,hd2⟩:=JD hok;obtain⟨hun,o',ho',hall⟩:=mem_ready.1 hr;rw[ho] at ho';obtain rfl:=Option.some.inj ho';obtain⟨hbf,hbi⟩:=dO hun
  have hput:∀ t,o.dst≠some t->(a.put o.dst v).tmps.getD t undef=a.tmps.getD t undef:=by
    intro t ht
    cases hd:o.dst with
    | none=>rfl
    | some d=>
      rw[hd] at ht;simp only[Act.put];rw[Array.getD_eq_getD_getElem?,Array.getD_eq_getD_getElem?,Array.getElem?_setIfInBounds_ne (fun e=>ht (by rw[e]))]
  refine{ s:=hS _ _ h.s hR,size:=?_,defers:=?_,old:=fun t ht=>?_,bsize:=by simpa using h.bsize,closed:=?_,done:=?_ }
  · cases o.dst <;> simp[Act.put,h.size]
  · cases o.dst <;> simp[Act.put,h.defers]
  · rw[hput t (ht i o ho hif)];exact h.old t ht
  · intro k q hk hl e he hb
    have hne:∀ j,b.getD j false=true->(b.setIfInBounds i true).getD j false=true:=fun j hj=>by
      by_cases hij:i=j
      · subst hij;exact oH b i hbi
      · rw[fK b i j hij];exact hj
    by_cases hik:i=k
    · subst hik;rw[ho] at hk;obtain rfl:=Option.some.inj hk;exact hne _ (hall e he hb)
    · rw[fK b i k hik] at hl;exact hne _ (h.closed k q hk hl e he hb)
  · intro k q d hk hkf hl hd
    by_cases hik:i=k
    · subst hik;rw[ho] at hk;obtain rfl:=Option.some.inj hk;have hlt:=hd1 i o d ho hif hd;rw[hd]
      have:((a.put (some d) v).tmps.getD d undef)=v:=by
        simp only[Act.put];rw[Array.getD_eq_getD_getElem?,Array.getElem?_setIfInBounds];simp[h.size,hn,hlt]
      rw[this];exact hv
    · rw[fK b i k hik] at hl;rw[hput d (fun e=>hik (hd2 i k o q d ho hk hif hkf e hd))];exact hI _ _ _ _ (h.done k q d hk hkf hl hd) hR
def aEU (P:Program)(md:Region.Mode)(ops:Array Oper)(f:Nat)(Q:Exit->Act->World->Prop)(I:Nat->Value->World->Prop)(S:World->Prop)(a0:Act):Prop:=
  ∀ a w,S w->a.tmps.size=a0.tmps.size->a.defers=a0.defers->(∀ t,rE ops f t->a.tmps.getD t undef=a0.tmps.getD t undef)->(∀ i o d,ops[i]?=some o->i≠f->o.dst=some d->I i (a.tmps.getD d undef) w) ->
    match ops[f]? with
    | none=>Q .normal a w
    | some o=>∀ K:Act->World->Prop,(∀ a w,Q .normal a w->K a w)->if Region.wanted o (yielded ops a.tmps)=true then Oper.wp P o a w K Q else K (a.put o.dst undef) w
theorem vX {b:Array Bool}(h:∀ i,i<ops.size->b.getD i false=true):Region.ready md ops b=[]:=by
  apply List.eq_nil_iff_forall_not_mem.2;intro i hi;obtain⟨hun,o,ho,_⟩:=mem_ready.1 hi;obtain⟨hf,hb⟩:=dO hun;rw[h i (zl ho)] at hf
  cases hf
theorem NN {n:Nat}{b:Array Bool}{a:Act}{w:World}(h:∀ i,i<ops.size->b.getD i false=true)(hq:Q .normal a w):wpAny P md ops Q n b a w:=by
  have hr:=vX (md:=md) h
  cases n with
  | zero=>exact⟨hr,hq⟩
  | succ n=>exact⟨fun _=>hq,fun i hi=>(by rw[hr] at hi;cases hi)⟩
theorem YQ {f n:Nat}{I:Nat->Value->World->Prop}{S:World->Prop}{R:World->World->Prop}{a0:Act}(hok:lQ md ops f n=true)(hn:a0.tmps.size=n)
    (hI:∀ j v w w',I j v w->R w w'->I j v w')(hS:∀ w w',S w->R w w'->S w')(owes:∀ i,i<ops.size->i≠f->aCZ P md ops f Q I S R a0 i)(ends:aEU P md ops f Q I S a0) :
    ∀ (m:Nat) (b:Array Bool) (a:Act) (w:World),aC1 md ops f I S a0 b a w->(f<ops.size->b.getD f true=false)->rF b+m=ops.size->wpAny P md ops Q m b a w:=by
  have haft:=yA hok
  have some_ready:∀ (b:Array Bool),b.size=ops.size->∀ i,i<ops.size->b.getD i false=false->Region.ready md ops b≠[]:=by
    intro b hb i
    induction i using Nat.strongRecOn with
    | _ i ih=>
      intro hi hf
      by_cases hall:∀ e∈(ops[i]'hi).after,Region.binds md e=true->b.getD e.on false=true
      · intro hr
        have hm:i∈Region.ready md ops b:=mem_ready.2 ⟨by
          rw[Array.getD_eq_getD_getElem?,Array.getElem?_eq_getElem (by omega)] at hf |-;simpa using hf,ops[i],Array.getElem?_eq_getElem hi,hall⟩
        rw[hr] at hm;cases hm
      · simp only[Classical.not_forall] at hall;obtain⟨e,he,hbi,hne⟩:=hall;have hlt:=haft i ops[i] (Array.getElem?_eq_getElem hi) e he hbi;exact ih e.on hlt (by omega) (by simpa using hne)
  have fin:∀ (b:Array Bool) (a:Act) (w:World),aC1 md ops f I S a0 b a w->(∀ i,i<ops.size->i≠f->b.getD i false=true)->match ops[f]? with
    | none=>Q .normal a w
    | some o=>∀ K:Act->World->Prop,(∀ a w,Q .normal a w->K a w)->if Region.wanted o (yielded ops a.tmps)=true then Oper.wp P o a w K Q else K (a.put o.dst undef) w:=fun b a w h hall=>
    ends a w h.s h.size h.defers h.old fun i o d hi hif hd=>h.done i o d hi hif (hall i (zl hi) hif) hd
  intro m
  induction m with
  | zero=>
    intro b a w h hf ht;have hall:=OK (b:=b) (by rw[h.bsize];omega);rw[h.bsize] at hall
    have hnf:¬ f<ops.size:=fun hlt=>by
      have h1:=hf hlt;have h2:=hall f hlt;rw[(dO h1).1] at h2;cases h2
    have:=fin b a w h fun i hi _=>hall i hi
    rw[Array.getElem?_eq_none (by omega)] at this;exact⟨vX hall,this⟩
  | succ m ih=>
    intro b a w h hf ht;refine⟨fun hr=>?_,fun i hi=>?_⟩
    · have hall:∀ i,i<ops.size->b.getD i false=true:=fun i hi=>by
        cases hb:b.getD i false with
        | true=>rfl
        | false=>exact absurd hr (some_ready b h.bsize i hi hb)
      have hnf:¬ f<ops.size:=fun hlt=>by
        have h1:=hf hlt;have h2:=hall f hlt;rw[(dO h1).1] at h2;cases h2
      have:=fin b a w h fun i hi _=>hall i hi
      rw[Array.getElem?_eq_none (by omega)] at this;exact this
    · obtain⟨hun,o,ho,hall⟩:=mem_ready.1 hi;have hilt:i<ops.size:=(zl ho)
      by_cases hif:i=f
      · subst hif
        have hlisted:∀ k,k<ops.size->k≠i->b.getD k false=true:=by
          have hc:=hok;unfold lQ at hc;rw[Bool.and_eq_true] at hc;have hc2:=hc.2;rw[show decide (i<ops.size)=true from by simpa using hilt] at hc2;simp only[Bool.not_true,Bool.false_or] at hc2;have:=yQ (listed:=b) (f:=i) h.closed (fun o' ho'=>by rw[ho] at ho';obtain rfl:=Option.some.inj ho';exact hall) _ _ hc2 (fun j hj=>by simp at hj;exact .inl hj);intro k hk hki;exact this k (by simp[hk,hki])
        have hfin:=fin b a w h hlisted;rw[ho] at hfin;refine wpOp_step ho fun K hK=>hfin K fun a2 w2 hq=>hK a2 w2 (NN (fun k hk=>?_) hq)
        by_cases hki:i=k
        · subst hki;exact oH b i (by rw[h.bsize];exact hk)
        · rw[fK b i k hki];exact hlisted k hk (Ne.symm hki)
      · refine wpOp_step ho fun K hK=>owes i hilt hif o ho a w h.s h.old (fun j q d hj hw hd=>?_) K fun v w' hv hR=>hK _ _ (ih _ _ _ (SJ hok hn hI hS h ho hif hi hv hR) (fun hlt=>?_) ?_)
        · obtain⟨e,he,hb,rfl⟩:=TY hw
          by_cases hjf:e.on=f
          · have h1:=hall e he hb;rw[hjf] at h1;have hlt:f<ops.size:=by rw[<-hjf];exact(zl hj)
            rw[(dO (hf hlt)).1] at h1;cases h1
          · exact h.done e.on q d hj hjf (hall e he hb) hd
        · rw[fK b i f hif];exact hf hlt
        · rw[OJ hun];omega
theorem AO (f n:Nat)(I:Nat->Value->World->Prop)(S:World->Prop)(R:World->World->Prop){id:Nat}{a:Act}{w:World}(hm:P.follows .mixedOrders=true)(hok:lQ .any ops f n=true)(hn:a.tmps.size=n)
    (hI:∀ j v w w',I j v w->R w w'->I j v w')(hS:∀ w w',S w->R w w'->S w')(hs:S w.drew)(owes:∀ i,i<ops.size->i≠f->aCZ P .any ops f Q I S R a i)(ends:aEU P .any ops f Q I S a):(Code.region id ops true).wp P Q a w:=by
  refine wp_region_any hm (YQ hok hn hI hS owes ends ops.size _ a _ ?_ ?_ ?_)
  · refine{ s:=hs,size:=rfl,defers:=rfl,old:=fun _ _=>rfl,bsize:=by simp,closed:=?_,done:=?_ }
    · intro i o _ hl;rw[Array.getD_eq_getD_getElem?] at hl
      by_cases hi:i<ops.size
      · simp[Array.getElem?_replicate,hi] at hl
      · simp[Array.getElem?_replicate,hi] at hl
    · intro i o d _ _ hl;rw[Array.getD_eq_getD_getElem?] at hl
      by_cases hi:i<ops.size
      · simp[Array.getElem?_replicate,hi] at hl
      · simp[Array.getElem?_replicate,hi] at hl
  · intro hlt;rw[Array.getD_eq_getD_getElem?];simp[Array.getElem?_replicate,hlt]
  · have:rF (Array.replicate ops.size false)=0:=by
      unfold rF;rw[Array.toList_replicate,List.countP_eq_zero];intro a ha;rw[List.mem_replicate] at ha;simp[ha.2]
    omega
end
structure SP where
  p:Value->World->Prop
  st:∀ v w w',p v w->Below w.heap.size w w'->p v w'
def eqV (x:Value):SP:=⟨fun v _=>v=x,fun _ _ _ h _=>h⟩
def mX:SP:=⟨fun _ _=>True,fun _ _ _ h _=>h⟩
def iV (lo:Nat)(L:List Value):SP:=⟨fun v w=>∃ a c,v=.slice a L.length c/\Rd w a L/\L.length<=c/\c<=maxLen/\∀ x,a=some x->lo<=x.block,fun _ _ _ ⟨a,c,h1,h2,h3,h4,h5⟩ hb=>⟨a,c,h1,h2.below hb,h3,h4,h5⟩⟩
theorem cK {w:World}{base lo:Nat}{T:TypeId}{L:List Value}{v:Value}(h:w.ownsRow base T 1 v L.length L)(hlo:lo<=base):(iV lo L).p v w:=by
  obtain⟨a,c,h1,h2,h3,h4⟩:=Rd.own h
  refine⟨a,c,h1,h2,h3,h4,fun x hx=>?_⟩
  subst hx
  exact Nat.le_trans hlo (h.lt x.block (by rw[h1];rfl)).1
theorem Rd.set {w:World}{a:Option Addr}{L:List Value}(h:Rd w a L)(p:Addr)(v:Value)(hne:∀ x,a=some x->p.block<x.block):Rd (w.setCell p v) a L:=by
  rcases h with h|⟨b,off,rfl,h2,h3⟩
  · exact .inl h
  · have hb:b≠p.block:=fun e=>by have h9:p.block<b:=hne _ rfl;omega
    refine .inr ⟨b,off,rfl,by simpa[World.setCell] using h2,fun i u hu=>?_⟩
    rw[<-h3 i u hu]
    exact World.cell?_of_block (Below.heap_setCell _ _ _ _ hb)
theorem Rd.set4 {w:World}{a:Option Addr}{L:List Value}(h:Rd w a L)(r:Nat)(v0 v1 v2 v3:Value)(hne:∀ x,a=some x->r<x.block):Rd ((((w.setCell ⟨r,0,none⟩ v0).setCell ⟨r,1,none⟩ v1).setCell ⟨r,2,none⟩ v2).setCell ⟨r,3,none⟩ v3) a L:=
  (((h.set _ _ hne).set _ _ hne).set _ _ hne).set _ _ hne
theorem jU (x:Addr):x.add 0=x:=by obtain⟨b,o,s⟩:=x;cases s <;> simp[Addr.add]
def jF (L:List Value):SP:=⟨fun v w=>∃ a,v=.slice a L.length L.length/\Rd w a L,fun _ _ _ ⟨a,h1,h2⟩ hb=>⟨a,h1,h2.below hb⟩⟩
def wO (x y:Value)(L:List Value):SP:=⟨fun v w=>∃ a a5,v=.slice a 3 3/\Rd w a [x,.slice a5 L.length L.length,y]/\Rd w a5 L,fun _ _ _ ⟨a,a5,h1,h2,h3⟩ hb=>⟨a,a5,h1,h2.below hb,h3.below hb⟩⟩
theorem Rd.made (w:World)(cs:Array Value)(T:TypeId):Rd (w.alloc (.cells cs T)) (some ⟨w.heap.size,0,none⟩) cs.toList:=by
  refine .inr ⟨w.heap.size,0,rfl,by simp,fun i u hu=>?_⟩
  rw[cob (han w _)]
  simpa using hu
theorem aB (w:World)(o:Obj):Below w.heap.size w (w.alloc o):=(Below.refl _ _).alloc (Nat.le_refl _) _
def sN (f t:Nat):List Oper->Nat->Bool
  | [],_=>true
  | o::r,i=>(i==f || o.dst != some t)&&sN f t r (i+1)
theorem OA {f t:Nat}:∀ (l:List Oper) (i:Nat),sN f t l i=true->∀ j o,l[j]?=some o->i+j≠f->o.dst≠some t:=by
  intro l
  induction l with
  | nil=>intro i _ j o h;simp at h
  | cons p r ih=>
    intro i h j o hj hf
    unfold sN at h
    rw[Bool.and_eq_true] at h
    cases j with
    | zero=>
      have:p=o:=by simpa using hj
      subst this
      have h1:=h.1
      rw[Bool.or_eq_true] at h1
      rcases h1 with h1|h1
      · exact absurd (eq_of_beq h1) (by simpa using hf)
      · simpa using h1
    | succ j=>exact ih (i+1) h.2 j o (by simpa using hj) (by omega)
theorem aW {ops:Array Oper}{f t:Nat}(h:sN f t ops.toList 0=true):rE ops f t:=fun i o hi hf=>OA ops.toList 0 h i o (by simpa using hi) (by omega)
section
variable {P:Program} {ops:Array Oper} {Q:Exit->Act->World->Prop} {md:Region.Mode}
theorem MW {a:Act}{n:Nat}{d:List Deferred}(h:a.tmps.size=n)(hd:a.defers=d):a={ tmps:=((List.range n).map fun t=>a.tmps[t]?.getD undef).toArray,defers:=d }:=by
  obtain⟨t,e⟩:=a
  dsimp only at h hd
  subst hd
  subst h
  congr 1
  apply Array.ext'
  simp only[]
  apply List.ext_getElem (by simp)
  intro i h1 h2
  simp only[List.getElem_map,List.getElem_range]
  rw[Array.getElem?_eq_getElem (by simpa using h1)]
  simp
def kit (l:List SP)(i:Nat)(v:Value)(w:World):Prop:=(l.getD i mX).p v w
def OwesAll (P:Program)(ops:Array Oper)(f:Nat)(Q:Exit->Act->World->Prop)(l:List SP)(w0:World)(a0:Act)(k n:Nat):Prop:=
  ∀ i,k<=i->i<n->i≠f->aCZ P .any ops f Q (kit l) (fun w=>Below w0.heap.size w0 w) (fun w w'=>Below w.heap.size w w') a0 i
theorem OwesAll.nil {f n:Nat}{l:List SP}{w0:World}{a0:Act}:OwesAll P ops f Q l w0 a0 n n:=fun i h1 h2=>absurd h2 (Nat.not_lt.2 h1)
theorem OwesAll.skip {f n:Nat}{l:List SP}{w0:World}{a0:Act}(h:OwesAll P ops f Q l w0 a0 (f+1) n):OwesAll P ops f Q l w0 a0 f n:=fun i h1 h2 h3=>h i (by omega) h2 h3
theorem OwesAll.cons {f k n:Nat}{l:List SP}{w0:World}{a0:Act}(h0:aCZ P .any ops f Q (kit l) (fun w=>Below w0.heap.size w0 w) (fun w w'=>Below w.heap.size w w') a0 k)(h:OwesAll P ops f Q l w0 a0 (k+1) n):OwesAll P ops f Q l w0 a0 k n:=fun i h1 h2 h3=>by
  by_cases hk:i=k
  · rw[hk];exact h0
  · exact h i (by omega) h2 h3
theorem dG (f n:Nat)(l:List SP){id:Nat}{a:Act}{w:World}(hm:P.follows .mixedOrders=true)(hok:lQ .any ops f n=true)(hn:a.tmps.size=n)
    (owes:OwesAll P ops f Q l w a 0 ops.size)(ends:aEU P .any ops f Q (kit l) (fun w'=>Below w.heap.size w w') a):(Code.region id ops true).wp P Q a w:=
  AO f n (kit l) (fun w'=>Below w.heap.size w w') (fun w w'=>Below w.heap.size w w') hm hok hn (fun j v w1 w2 h hb=>(l.getD j mX).st v w1 w2 h hb) (fun w1 w2 h hb=>chain h hb) ((Below.refl _ _).drew)
    (fun i hi hf=>owes i (Nat.zero_le _) hi hf) ends
theorem aFW {l:List SP}{o q:Oper}{a:Act}{w:World}{d:Nat}(h:∀ j q d,ops[j]?=some q->jW md o j=true->q.dst=some d->kit l j (a.tmps.getD d undef) w)(j:Nat)(hq:ops[j]?=some q)(hd:q.dst=some d)(hw:jW md o j=true):(l.getD j mX).p (a.tmps.getD d undef) w:=h j q d hq hw hd
end
section
variable {P:Program} {ops:Array Oper} {Q:Exit->Act->World->Prop}
theorem gd (a:Act)(t:Nat):a.tmps.getD t undef=a.tmps[t]?.getD undef:=Array.getD_eq_getD_getElem? ..
theorem OwesAll.op {f k n:Nat}{l:List SP}{w0:World}{a0:Act}{o:Oper}{r:List Oper}(ho:ops.toList.drop k=o::r)
    (h0:∀ a w,Below w0.heap.size w0 w->(∀ t,rE ops f t->a.tmps[t]?.getD undef=a0.tmps.getD t undef)->(∀ j q d,ops[j]?=some q->jW .any o j=true->q.dst=some d->kit l j (a.tmps[d]?.getD undef) w) ->
      ∀ K:Act->World->Prop,Hid (∀ v w',kit l k v w'->Below w.heap.size w w'->K (a.put o.dst v) w')->if Region.wanted o (yielded ops a.tmps)=true then Oper.wp P o a w K Q else K (a.put o.dst undef) w)
    (h:OwesAll P ops f Q l w0 a0 (k+1) n):OwesAll P ops f Q l w0 a0 k n:=by
  refine OwesAll.cons ?_ h
  intro o' ho' a w hS hold hdep K hK
  have e:ops[k]?=some o:=by
    have:=congrArg (·[0]?) ho
    simpa using this
  rw[e] at ho'
  injection ho' with ho'
  subst ho'
  exact h0 a w hS (fun t ht=>by rw[<-gd];exact hold t ht) (fun j q d h1 h2 h3=>by rw[<-gd];exact hdep j q d h1 h2 h3) K (Lib.hid hK)
theorem dp {l:List SP}{o q:Oper}{a:Act}{w:World}{d:Nat}(h:∀ j q d,ops[j]?=some q->jW .any o j=true->q.dst=some d->kit l j (a.tmps[d]?.getD undef) w)(j:Nat)(hq:ops[j]?=some q)(hd:q.dst=some d)(hw:jW .any o j=true):(l.getD j mX).p (a.tmps[d]?.getD undef) w:=h j q d hq hw hd
end
section
variable {P:Program} {ops:Array Oper} {Q:Exit->Act->World->Prop}
theorem Fp {f:Nat}(k:Nat){n:Nat}{l:List SP}{w0:World}{a0:Act}{o:Oper}{r:List Oper}
    (h0:∀ a w,Below w0.heap.size w0 w->(∀ t,rE ops f t->a.tmps[t]?.getD undef=a0.tmps.getD t undef)->(∀ j q d,ops[j]?=some q->jW .any o j=true->q.dst=some d->kit l j (a.tmps[d]?.getD undef) w) ->
      ∀ K:Act->World->Prop,Hid (∀ v w',kit l k v w'->Below w.heap.size w w'->K (a.put o.dst v) w')->if Region.wanted o (yielded ops a.tmps)=true then Oper.wp P o a w K Q else K (a.put o.dst undef) w)
    (h:OwesAll P ops f Q l w0 a0 (k+1) n)(ho:ops.toList.drop k=o::r:=by exact rfl):OwesAll P ops f Q l w0 a0 k n:=OwesAll.op ho h0 h
theorem Fo {f:Nat}(k:Nat){n:Nat}{l:List SP}{w0:World}{a0:Act}{o:Oper}{r:List Oper}
    (h0:∀ a w,Below w0.heap.size w0 w->(∀ t,rE ops f t->a.tmps[t]?.getD undef=a0.tmps.getD t undef)->(∀ j q d,ops[j]?=some q->jW .any o j=true->q.dst=some d->kit l j (a.tmps[d]?.getD undef) w) ->
      ∀ K:Act->World->Prop,Hid (∀ v w',kit l k v w'->Below w.heap.size w w'->K (a.put o.dst v) w')->Oper.wp P o a w K Q)
    (h:OwesAll P ops f Q l w0 a0 (k+1) n)(ho:ops.toList.drop k=o::r:=by exact rfl)(hw:∀ t,Region.wanted o (yielded ops t)=true:=by intro t;rfl):OwesAll P ops f Q l w0 a0 k n:=OwesAll.op ho (fun a w h1 h2 h3 K hK=>by rw[if_pos (hw _)];exact h0 a w h1 h2 h3 K hK) h
theorem Hr {l:List SP}{k:Nat}{a:Act}{d:Option Tmp}{w:World}{v:Value}{K:Act->World->Prop}(HK:Hid (∀ v w',kit l k v w'->Below w.heap.size w w'->K (a.put d v) w'))(h:kit l k v w:=by exact rfl):K (a.put d v) w:=HK v w h (Below.refl _ _)
theorem Fl {f:Nat}{a a0:Act}{v:Value}{r:List Value}(h:∀ t,rE ops f t->a.tmps[t]?.getD undef=a0.tmps.getD t undef)(t:Nat)(hu:sN f t ops.toList 0=true:=by kernel_rfl)(hv:a0.tmps.toList.drop t=v::r:=by exact rfl):a.tmps[t]?.getD undef=v:=by
  rw[h t (aW hu),Array.getD_eq_getD_getElem?]
  have e:a0.tmps.toList[t]?=some v:=by
    have:=congrArg (·[0]?) hv
    simpa using this
  rw[<-Array.getElem?_toList,e]
  rfl
theorem Fr {l:List SP}{o q:Oper}{a:Act}{w:World}{d:Nat}(h:∀ j q d,ops[j]?=some q->jW .any o j=true->q.dst=some d->kit l j (a.tmps[d]?.getD undef) w)(j:Nat)(hq:ops[j]?=some q:=by exact rfl)(hd:q.dst=some d:=by exact rfl)(hw:jW .any o j=true:=by kernel_rfl):(l.getD j mX).p (a.tmps[d]?.getD undef) w:=h j q d hq hw hd
theorem Fq {l:List SP}{o q:Oper}{a:Act}{w:World}{d:Nat}{v:Value}(h:∀ j q d,ops[j]?=some q->jW .any o j=true->q.dst=some d->kit l j (a.tmps[d]?.getD undef) w)(j:Nat)(hq:ops[j]?=some q:=by exact rfl)(hd:q.dst=some d:=by exact rfl)(hw:jW .any o j=true:=by kernel_rfl)(he:l.getD j mX=eqV v:=by exact rfl):a.tmps[d]?.getD undef=v:=by
  have:=h j q d hq hw hd
  unfold kit at this
  rw[he] at this
  exact this
end
