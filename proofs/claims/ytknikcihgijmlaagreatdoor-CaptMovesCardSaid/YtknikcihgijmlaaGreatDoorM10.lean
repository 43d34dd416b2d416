import Derived.Test.YtknikcihgijmlaaGreatDoorM08
import Derived.Test.YtknikcihgijmlaaGreatDoorM09
namespace Go.Proofs.YtknikcihgijmlaaGreatDoor
open Go.RowKit
set_option maxRecDepth 20000
set_option maxHeartbeats 12800000
set_option linter.unusedVariables false
set_option linter.unusedSimpArgs false
def fV (st:DkS)(h:HdS):DkS × Int:=if(mM st (h.gen % 2) 1 (fJ h)).2=0 then(mM st (h.gen % 2) 1 (fJ h)).1.sync else mM st (h.gen % 2) 1 (fJ h)
theorem xG (w:World)(d:Nat)(st:DkS)(F:Nat->Prop)(hd:Dk w d st F)(h:HdS)(g0:0<=h.gen)(g1:h.gen<=9223372036854775807)(r0:0<=h.root)(r1:h.root<=9223372036854775807)(hu:h.used.size<=1000) :
  () 68 #[d,hdV h] w fun e w'=>e=.returned (.int .i64 (fV st h).2)/\DkPost w d (fV st h).1 F w':=by
 have PL:=Hd (fun w=>WK h.gen w g0 g1);have TX:=Hd (fun w=>aAH h w g0 g1 r0 r1 hu);have WR:=Hd (fun w' (hd:Dk w' d st F)=>pR w' d st F hd (h.gen % 2) 1 (fJ h));have SY:=Hd (fun w' F' (hd:Dk w' d (mM st (h.gen % 2) 1 (fJ h)).1 F')=>UP w' d _ F' hd);have HFD:=Hd (fun k (hk:F k)=>hd.lt k hk);unfold fV hdV at *;generalize fJ h=T at *;generalize h.gen % 2=gm at *;obtain⟨r,hr⟩:∃ r,mM st gm 1 T=r:=⟨_,rfl⟩
 rw[hr] at WR SY |-;obtain⟨W,hW⟩:∃ W,w.alloc (.cells #[h.gen,h.root,h.used] 113)=W:=⟨_,rfl⟩
 have bW:Below w.heap.size w W:=by rw[<-hW];exact aB _ _
 have XW:=Hd (show W.heap[w.heap.size]?=some (.cells #[h.gen,h.root,h.used] 113) from by rw[<-hW];exact han _ _);have HD:=Hd (hd.below bW);have FW:=Hd (Frm.of_below (F:=F) bW);have HW:=Hd hW;obtain⟨rs,re⟩:=r
 dsimp only at WR SY |-
 obtain⟨R,hR⟩:∃ R,(if re=0 then rs.sync else(rs,re))=R:=⟨_,rfl⟩
 rw[hR];have HR:=Hd hR;clear hd bW hW hr g0 g1 r0 r1 hu hR;go_enter Tryz.func68,Tryz.ntmps68;go_wp2_with fail;rw[HW.o];clear HW;have hlW:w.heap.size<W.heap.size:=(zl XW.o);have hnW:¬ F w.heap.size:=fun hx=>Nat.lt_irrefl _ (HFD _ hx)
 refine wp_region_held_drew (S:=fun w'=>Frm F W w') (by kernel_rfl) ((Frm.refl F W).drew) (fun hS=>?_);refine Hu 0 6 hS ?_;simp only[SL];refine Hu 1 7 hS ?_;simp only[SL];refine Hv 2 8 ?vw2x3 hS ?hw2x3 ?_
 case hw2x3=>
  intro w9 s9;have X9:=(s9.block w.heap.size hlW hnW).trans XW.o;have c0:=cl X9 0 rfl;have c1:=cl X9 1 rfl;have c2:=cl X9 2 rfl;clear s9;go_simp;try (with_reducible rfl)
 simp only[SL];refine Hv 4 10 ?vw4x4 hS ?hw4x4 ?_
 case hw4x4=>
  intro w9 s9;have X9:=(s9.block w.heap.size hlW hnW).trans XW.o;have c0:=cl X9 0 rfl;have c1:=cl X9 1 rfl;have c2:=cl X9 2 rfl;clear s9;go_simp;try (with_reducible rfl)
 simp only[SL];refine Hs 3 (fun K HK=>?_);go_simp;go_wp2_with fail;refine(PL _).mono ?_;rintro e v3 ⟨rfl,rfl⟩;refine HK _ _ ?_ ?_
 ·exact hS
 clear HK K;try simp only[Act.put,SL]
 refine Hs 5 (fun K HK=>?_);go_simp;go_wp2_with fail;refine(TX _).mono ?_;rintro e v5 ⟨rfl,b5⟩;refine HK _ _ ?_ ?_
 ·exact hS.trans (Frm.of_below (F:=F) b5) (fun i hi=>.inl hi)
 clear HK K;try simp only[Act.put,SL]
 have HD5:=Hd ((HD.below (Below.refl W.heap.size W).drew).below b5);have hS9:=hS.trans (Frm.of_below (F:=F) b5) (fun i hi=>.inl hi);clear hS b5;have hS:=hS9;clear hS9;have hw5:=Hd hS.size;refine Hs 6 (fun K HK=>?_);go_simp;go_wp2_with fail;refine(WR _ HD5.o).mono ?_;rintro e v6 ⟨rfl,F2,hd2,hf2,hs2⟩;have HD6:=Hd hd2;have HS6:=Hd hs2;clear hd2 hs2;refine HK _ _ ?_ ?_
 ·exact hS.trans hf2 (fun i hi=>.inl hi)
 clear HK K;try simp only[Act.put,SL]
 have hS9:=hS.trans hf2 (fun i hi=>.inl hi);clear hS hf2;have hS:=hS9;clear hS9;refine Hu 7 5 hS ?_;simp only[SL];refine wpAnyH_done (by kernel_rfl) ?_ _;have H9:=Hd (FW.trans hS (fun i hi=>.inl hi))
 have FIN:Hid (∀ (st':DkS) w',DkPost v6 d st' F2 w'->DkPost w d st' F w'):=Hd (fun st' w' hp=>DkPost.trans (st1:=st) H9 (fun k hk=>by
  rcases HS6 k hk with hx|hx
  ·exact .inl hx
  ·exact .inr (Nat.le_trans (by have:=hw5.o;omega) hx)) hp)
 clear hS hw5;have hR:=HR.o
 by_cases h0:re=0
 ·rw[if_pos h0] at hR
  subst hR;clear HR;subst h0;go_wp2_with fail;refine(SY _ _ HD6.o).mono ?_;rintro e v7 ⟨rfl,hp⟩;have HP7:=Hd (FIN _ _ hp);clear hp;go_wp2_with fail;go_ret;exact⟨rfl,HP7.o⟩
 ·rw[if_neg h0] at hR
  subst hR;have HP7:=Hd (FIN _ _ (DkPost.same HD6.o));clear HR;have h1:(re==0)=false:=by simpa using h0
  have h2:(re != 0)=true:=by simpa using h0
  clear h0;go_wp2_with fail;go_ret;exact⟨rfl,HP7.o⟩
structure ShS where
 h:HdS
 fresh:List Int
 given:List Int
 up:Bool
structure aES (h:HdS):Prop where
 g0:0<=h.gen
 g1:h.gen<=281474976710655
 r0:0<=h.root
 r1:h.root<=281474976710655
 u:h.used.size=80
structure StoIn (w:World)(s d f g:Nat)(st:ShS):Prop where
 cell:w.heap[s]?=some (.cells #[.pointer (some ⟨d,0,none⟩),.int .i64 st.h.gen,.int .i64 st.h.root,.string st.h.used,.map (some f),.map (some g),.bool st.up] 152)
 fr:SetI w f st.fresh
 gv:SetI w g st.given
 sf:s≠f
 sg:s≠g
 fg:f≠g
 ok:aES st.h
 fb:∀ x∈st.fresh,2<=x/\x<640
 gb:∀ x∈st.given,2<=x/\x<640
def aCX (s f g:Nat)(k:Nat):Prop:=k=s\/k=f\/k=g
def Sto (w:World)(s d:Nat)(st:ShS)(F:Nat->Prop):Prop:=∃ f g,StoIn w s d f g st/\∀ k,F k ↔ aCX s f g k
theorem StoIn.lt {w:World}{s d f g:Nat}{st:ShS}(h:StoIn w s d f g st)(k:Nat)(hk:aCX s f g k):k<w.heap.size:=by
 rcases hk with rfl|rfl|rfl
 ·exact(zl h.cell)
 ·exact h.fr.lt
 ·exact h.gv.lt
theorem StoIn.kept {w w':World}{s d f g:Nat}{st:ShS}(h:StoIn w s d f g st)(hk:∀ k,aCX s f g k->w'.heap[k]?=w.heap[k]?):StoIn w' s d f g st:=
 { h with
  cell:=(hk s (.inl rfl)).trans h.cell
  fr:=h.fr.kept (hk f (.inr (.inl rfl)))
  gv:=h.gv.kept (hk g (.inr (.inr rfl))) }
theorem Sto.lt {w:World}{s d:Nat}{st:ShS}{F:Nat->Prop}(h:Sto w s d st F)(k:Nat)(hk:F k):k<w.heap.size:=by
 obtain⟨f,g,hi,he⟩:=h;exact hi.lt k ((he k).1 hk)
theorem Sto.frm {w w':World}{s d:Nat}{st:ShS}{F G:Nat->Prop}(h:Sto w s d st F)(hf:Frm G w w')(hd:∀ k,F k->¬ G k):Sto w' s d st F:=by
 obtain⟨f,g,hi,he⟩:=h;exact⟨f,g,hi.kept fun k hk=>hf.block k (hi.lt k hk) (hd k ((he k).2 hk)),he⟩
theorem Sto.below {w w':World}{s d:Nat}{st:ShS}{F:Nat->Prop}(h:Sto w s d st F)(hb:Below w.heap.size w w'):Sto w' s d st F:=
 h.frm (G:=fun _=>False) (Frm.of_below hb) fun _ _ hx=>hx
def ShS.new (h:HdS):ShS:=⟨h,[],[],true⟩
def KH (w:World)(d:Nat)(st:ShS)(w0:World)(v:Value):Prop:=∃ s F,v=.pointer (some ⟨s,0,none⟩)/\Sto w s d st F/\∀ k,F k->w0.heap.size<=k
theorem aBH (w:World)(d:Nat)(h:HdS)(hok:aES h) :
  () 69 #[d,hdV h] w fun e w'=>∃ v,e=.returned v/\KH w' d (ShS.new h) w v/\Below w.heap.size w w':=by
 have hmk:∀ w',(Instr.makeMap 150 none).run Tryz.prog w'=.ok (.map (some w'.heap.size)) (w'.alloc (.map #[] 0)):=fun w'=>by simp[Instr.makeMap]
 obtain⟨W,hW⟩:∃ W,(((w.alloc (.cells #[h.gen,h.root,h.used] 113)).alloc (.map #[] 0)).alloc (.map #[] 0)).alloc (.cells #[d,h.gen,h.root,h.used,.map (some (w.heap.size+1)),.map (some (w.heap.size+1+1)),true] 152)=W:=⟨_,rfl⟩
 have s1:(w.alloc (.cells #[h.gen,h.root,h.used] 113)).heap.size=w.heap.size+1:=by simp
 have s2:((w.alloc (.cells #[h.gen,h.root,h.used] 113)).alloc (.map #[] 0)).heap.size=w.heap.size+1+1:=by simp
 have s3:(((w.alloc (.cells #[h.gen,h.root,h.used] 113)).alloc (.map #[] 0)).alloc (.map #[] 0)).heap.size=w.heap.size+1+1+1:=by simp
 have X1:W.heap[w.heap.size+1]?=some (.map #[] 0):=by
  rw[<-hW,<-s1];exact(hao _ _ (by rw[s3];omega)).trans ((hao _ _ (by rw[s2];omega)).trans (han _ _))
 have X2:W.heap[w.heap.size+1+1]?=some (.map #[] 0):=by
  rw[<-hW,<-s2];exact(hao _ _ (by rw[s3];omega)).trans (han _ _)
 have X3:W.heap[w.heap.size+1+1+1]?=some (.cells #[d,h.gen,h.root,h.used,.map (some (w.heap.size+1)),.map (some (w.heap.size+1+1)),true] 152):=by
  rw[<-hW,<-s3];exact han _ _
 have BW:Below w.heap.size w W:=by
  rw[<-hW];exact(((Br.alloc (Nat.le_refl _) _).alloc (by rw[s1];omega) _).alloc (by rw[s2];omega) _).alloc (by rw[s3];omega) _
 have FIN:Hid (KH W d (ShS.new h) w (.pointer (some ⟨w.heap.size+1+1+1,0,none⟩))/\Below w.heap.size w W):=Hd
  ⟨⟨w.heap.size+1+1+1,aCX (w.heap.size+1+1+1) (w.heap.size+1) (w.heap.size+1+1),rfl,⟨_,_,⟨X3,⟨#[],0,X1,rfl,MapKept.stamped_empty 0⟩,⟨#[],0,X2,rfl,MapKept.stamped_empty 0⟩,by omega,by omega,by omega,hok,(fun x hx=>by cases hx),fun x hx=>by cases hx⟩,fun k=>Iff.rfl⟩,fun k hk=>by
   rcases hk with rfl|rfl|rfl <;> omega⟩,BW⟩
 have HW:=Hd hW;unfold hdV;clear s1 s2 s3 X1 X2 X3 BW hW hok;go_enter Tryz.func69,Tryz.ntmps69;go_wp2_with fail;go_ret
 first|rw[HW.o]|skip
 exact⟨_,rfl,FIN.1,FIN.2⟩
structure DS (w:World)(d s:Nat)(dk:DkS)(st:ShS)(FD FS:Nat->Prop):Prop where
 dk:Dk w d dk FD
 sto:Sto w s d st FS
 apart:∀ k,FD k->¬ FS k
theorem DS.below {w w':World}{d s:Nat}{dk:DkS}{st:ShS}{FD FS:Nat->Prop}(h:DS w d s dk st FD FS)(hb:Below w.heap.size w w'):DS w' d s dk st FD FS:=
 ⟨h.dk.below hb,h.sto.below hb,h.apart⟩
def DSPost (w:World)(d s:Nat)(FD FS:Nat->Prop)(dk:DkS)(st:ShS)(w':World):Prop:=∃ FD',DS w' d s dk st FD' FS/\Frm (fun k=>FD k\/FS k) w w'/\∀ k,FD' k->FD k\/w.heap.size<=k
theorem DSPost.same {w:World}{d s:Nat}{dk:DkS}{st:ShS}{FD FS:Nat->Prop}(h:DS w d s dk st FD FS):DSPost w d s FD FS dk st w:=⟨FD,h,Frm.refl _ _,fun k hk=>.inl hk⟩
theorem DSPost.below {w w':World}{d s:Nat}{dk:DkS}{st:ShS}{FD FS:Nat->Prop}(h:DS w d s dk st FD FS)(hb:Below w.heap.size w w'):DSPost w d s FD FS dk st w':=⟨FD,h.below hb,Frm.of_below hb,fun k hk=>.inl hk⟩
theorem DSPost.trans {w w1 w2:World}{d s:Nat}{dk1 dk2:DkS}{st1 st2:ShS}{FD FD1 FS:Nat->Prop}(hs:w.heap.size<=w1.heap.size)(hf:Frm (fun k=>FD k\/FS k) w w1)(hn:∀ k,FD1 k->FD k\/w.heap.size<=k)(h2:DSPost w1 d s FD1 FS dk2 st2 w2):DSPost w d s FD FS dk2 st2 w2:=by
 obtain⟨FD2,h,f2,n2⟩:=h2;refine⟨FD2,h,hf.trans f2 (fun k hk=>?_),fun k hk=>?_⟩
 ·rcases hk with hk|hk
  ·rcases hn k hk with hx|hx
   ·exact .inl (.inl hx)
   ·exact .inr hx
  ·exact .inl (.inr hk)
 ·rcases n2 k hk with hx|hx
  ·exact hn k hx
  ·exact .inr (Nat.le_trans hs hx)
theorem DSPost.disk {w w':World}{d s:Nat}{dk dk':DkS}{st:ShS}{FD FS:Nat->Prop}(h:DS w d s dk st FD FS)(hp:DkPost w d dk' FD w'):DSPost w d s FD FS dk' st w':=by
 obtain⟨FD',h1,h2,h3⟩:=hp;refine⟨FD',⟨h1,h.sto.frm h2 (fun k hk hx=>h.apart k hx hk),fun k hk hx=>?_⟩,h2.mono (fun i hi=>.inl hi),h3⟩
 rcases h3 k hk with hy|hy
 ·exact h.apart k hy hx
 ·have:=h.sto.lt k hx;omega
theorem DSPost.store {w w':World}{d s:Nat}{dk:DkS}{st st':ShS}{FD FS:Nat->Prop}(h:DS w d s dk st FD FS)(hf:Frm FS w w')(hs:Sto w' s d st' FS):DSPost w d s FD FS dk st' w':=
 ⟨FD,⟨h.dk.frm hf h.apart,hs,h.apart⟩,hf.mono (fun i hi=>.inr hi),fun k hk=>.inl hk⟩
theorem StoIn.cells {w:World}{s d f g:Nat}{st:ShS}(h:StoIn w s d f g st) :
  w.cell? ⟨s,0,none⟩=some (.pointer (some ⟨d,0,none⟩))/\w.cell? ⟨s,1,none⟩=some (.int .i64 st.h.gen)/\w.cell? ⟨s,2,none⟩=some (.int .i64 st.h.root)/\w.cell? ⟨s,3,none⟩=some (.string st.h.used)/\w.cell? ⟨s,4,none⟩=some (.map (some f))/\w.cell? ⟨s,5,none⟩=some (.map (some g))/\w.cell? ⟨s,6,none⟩=some (.bool st.up):=by
 refine⟨?_,?_,?_,?_,?_,?_,?_⟩ <;> (rw[cob h.cell];rfl)
theorem StoIn.free {w:World}{s d f g:Nat}{st:ShS}(h:StoIn w s d f g st)(k:Nat):w.frozen? ⟨s,k,none⟩=false:=ufb h.cell k
theorem aAV (w:World)(s d:Nat)(st:ShS)(F:Nat->Prop)(h:Sto w s d st F) :
  () 71 #[s] w fun e w'=>e=.returned st.h.root/\w=w':=by
 obtain⟨f,g,hi,he⟩:=h;obtain⟨c0,c1,c2,c3,c4,c5,c6⟩:=hi.cells;clear he hi;go_enter Tryz.func71,Tryz.ntmps71;go_wp2_with fail;go_ret;exact⟨rfl,rfl⟩
theorem sX (w:World)(s d:Nat)(st:ShS)(F:Nat->Prop)(h:Sto w s d st F)(dk:DkS)(FD:Nat->Prop)(hd:Dk w d dk FD) :
  () 165 #[s] w fun e w'=>e=.returned (.int .i64 (dk.S.length:Int))/\w=w':=by
 obtain⟨f,g,hi,he⟩:=h;obtain⟨c0,c1,c2,c3,c4,c5,c6⟩:=hi.cells;have SZ:=Hd (YV w d dk FD hd);clear he hi hd;go_enter Tryz.func165,Tryz.ntmps165;go_wp2_with fail;refine SZ.mono ?_;rintro e w1 ⟨rfl,rfl⟩;go_wp2_with fail;go_ret;exact⟨rfl,rfl⟩
theorem KO (w:World)(s d:Nat)(st:ShS)(F:Nat->Prop)(h:Sto w s d st F)(n:Int)(hn:n<9223372036854775808) :
  () 159 #[s,n] w fun e w'=>e=.returned (.bool (gI st.h.used n))/\w=w':=by
 obtain⟨f,g,hi,he⟩:=h;obtain⟨c0,c1,c2,c3,c4,c5,c6⟩:=hi.cells;have HS:=Hd (aBX st.h.used n w hn);clear he hi hn;go_enter Tryz.func159,Tryz.ntmps159;go_wp2_with fail;refine HS.mono ?_;rintro e w1 ⟨rfl,rfl⟩;go_wp2_with fail;go_ret;exact⟨rfl,rfl⟩
theorem YK (w:World)(s d:Nat)(st:ShS)(F:Nat->Prop)(h:Sto w s d st F)(n:Int) :
  () 153 #[s,n] w fun e w'=>e=.returned (.bool (decide (n∈st.fresh)))/\Below w.heap.size w w':=by
 obtain⟨f,g,hi,he⟩:=h;obtain⟨c0,c1,c2,c3,c4,c5,c6⟩:=hi.cells;have HS:=Hd (kS f st.fresh n w hi.fr);clear he hi;go_enter Tryz.func153,Tryz.ntmps153;go_wp2_with fail;refine HS.mono ?_;rintro e w1 ⟨rfl,b1⟩;go_wp2_with fail;go_ret;exact⟨rfl,b1⟩
def ShS.told (st:ShS)(e:Int):ShS:=if e=5 then{ st with up:=false } else st
theorem StoIn.setUp {w:World}{s d f g:Nat}{st:ShS}(h:StoIn w s d f g st)(u:Bool):StoIn (w.setCell ⟨s,6,none⟩ (.bool u)) s d f g { st with up:=u }:=
 {cell:=by rw[hss _ _ 6 _ _ _ h.cell];rfl
  fr:=h.fr.kept (Below.heap_setCell _ _ _ _ (Ne.symm h.sf))
  gv:=h.gv.kept (Below.heap_setCell _ _ _ _ (Ne.symm h.sg))
  sf:=h.sf
  sg:=h.sg
  fg:=h.fg
  ok:=h.ok
  fb:=h.fb
  gb:=h.gb }
theorem aAF (w:World)(s d:Nat)(st:ShS)(F:Nat->Prop)(h:Sto w s d st F)(q:Int) :
  () 167 #[s,q] w fun e w'=>e=.returned q/\Sto w' s d (st.told q) F/\Frm F w w':=by
 have H:=Hd h;obtain⟨f,g,hi,he⟩:=h;obtain⟨c0,c1,c2,c3,c4,c5,c6⟩:=hi.cells;have f6:=hi.free 6;have FIN:Hid (Sto (w.setCell ⟨s,6,none⟩ (.bool false)) s d { st with up:=false } F/\Frm F w (w.setCell ⟨s,6,none⟩ (.bool false))):=Hd ⟨⟨f,g,hi.setUp false,he⟩,(Frm.refl F w).setCell _ _ (.inl ((he s).2 (.inl rfl)))⟩;unfold ShS.told;clear he hi
 by_cases h5:q=5
 ·subst h5
  rw[if_pos rfl];go_enter Tryz.func167,Tryz.ntmps167;go_wp2_with fail;go_ret;exact⟨rfl,FIN.o⟩
 ·rw[if_neg h5]
  have hb:(q==5)=false:=by simpa using h5
  clear FIN;go_enter Tryz.func167,Tryz.ntmps167;go_wp2_with fail;go_ret;exact⟨rfl,H.o,Frm.refl _ _⟩
def ShS.write (st:ShS)(dk:DkS)(n k:Int)(t:ByteArray):DkS × ShS × Int:=
 if st.up=false then(dk,st,5) else if n ∉ st.fresh then(dk,st,6) else((mM dk n k t).1,st.told (mM dk n k t).2,(mM dk n k t).2)
theorem zX (w:World)(d s:Nat)(dk:DkS)(st:ShS)(FD FS:Nat->Prop)(h:DS w d s dk st FD FS)(n k:Int)(t:ByteArray) :
  () 174 #[s,n,.int .i64 k,t] w fun e w'=>e=.returned (.int .i64 (st.write dk n k t).2.2)/\DSPost w d s FD FS (st.write dk n k t).1 (st.write dk n k t).2.1 w':=by
 have H:=Hd h;obtain⟨f,g,hi,he⟩:=h.sto;have HS:=Hd (kS f st.fresh n w hi.fr);have WR:=Hd (fun w' (hb:Below w.heap.size w w')=>pR w' d dk FD (h.dk.below hb) n k t);have CE:=Hd (fun w' (hb:Below w.heap.size w w')=>(hi.kept (fun k hk=>hb.block k (hi.lt k hk))).cells);have FIN:=Hd (fun w1 w2 dk' (hb:Below w.heap.size w w1) (hp:DkPost w1 d dk' FD w2)=>DSPost.disk (h.below hb) hp)
 have FIN2:=Hd (fun w1 (hb:Below w.heap.size w w1) w2 dk' st' (hp:DSPost w1 d s FD FS dk' st' w2)=>DSPost.trans (dk1:=dk) (st1:=st) hb.size (Frm.of_below hb) (fun k hk=>.inl hk) hp);obtain⟨c0,c1,c2,c3,c4,c5,c6⟩:=hi.cells;unfold ShS.write;clear h he hi
 cases hu:st.up
 ·rw[if_pos rfl]
  rw[hu] at c6;go_enter Tryz.func174,Tryz.ntmps174;go_wp2_with fail;go_ret;exact⟨rfl,DSPost.same H.o⟩
 ·rw[if_neg (by decide)]
  rw[hu] at c6
  by_cases h1:n∈st.fresh
  ·rw[if_neg (by simpa using h1)]
   rw[decide_eq_true h1] at HS;obtain⟨⟨dk',re⟩,hr⟩:∃ r,mM dk n k t=r:=⟨_,rfl⟩
   rw[hr] at WR |-
   dsimp only at WR |-
   clear hr h1;go_enter Tryz.func174,Tryz.ntmps174;go_wp2_with fail;refine HS.mono ?_;rintro e w1 ⟨rfl,b1⟩;obtain⟨x0,-,-,-,-,-,-⟩:=CE _ b1;have W1:=Hd (WR _ b1);have P1:=Hd (fun w2 hp=>FIN w1 w2 dk' b1 hp);have P2:=Hd (FIN2 w1 b1);clear b1 CE;go_wp2_with fail;refine W1.mono ?_;rintro e w2 ⟨rfl,hp⟩;obtain⟨FD2,hD2,hf2,hn2⟩:=P1 w2 hp;have T2:=Hd (aAF w2 s d st FS hD2.sto re)
   have F2:=Hd (fun w3 (hs:Sto w3 s d (st.told re) FS) (hf:Frm FS w2 w3)=>P2 w3 dk' (st.told re) (DSPost.trans (dk1:=dk') (st1:=st) hf2.size hf2 hn2 (DSPost.store hD2 hf hs)));clear hp hD2 hf2 hn2;go_wp2_with fail;refine T2.mono ?_;rintro e w3 ⟨rfl,hs3,hf3⟩;have P3:=Hd (F2 _ hs3 hf3);clear hs3 hf3;go_wp2_with fail;go_ret;exact⟨rfl,P3.o⟩
  ·rw[if_pos h1]
   rw[decide_eq_false h1] at HS;clear h1;go_enter Tryz.func174,Tryz.ntmps174;go_wp2_with fail;refine HS.mono ?_;rintro e w1 ⟨rfl,b1⟩;have P1:=Hd (DSPost.below H b1);clear b1;go_wp2_with fail;go_ret;exact⟨rfl,P1.o⟩
def lZ (st:ShS)(n:Int):Bool:=!gI st.h.used n&&!decide (n∈st.fresh)
theorem iP (w:World)(m k:Nat)(o:Obj)(h:k≠m):({ w with heap:=w.heap.setIfInBounds m o }:World).heap[k]?=w.heap[k]?:=by
 show(w.heap.setIfInBounds m o)[k]?=_
 rw[Array.getElem?_setIfInBounds_ne (Ne.symm h)]
theorem StoIn.setFresh {w:World}{s d f g:Nat}{st:ShS}(h:StoIn w s d f g st)(o:Obj)(L:List Int)(hs:SetI { w with heap:=w.heap.setIfInBounds f o } f L)(hb:∀ x∈L,2<=x/\x<640):StoIn { w with heap:=w.heap.setIfInBounds f o } s d f g { st with fresh:=L }:=
 {cell:=(iP w f s o h.sf).trans h.cell
  fr:=hs
  gv:=h.gv.kept (iP w f g o (Ne.symm h.fg))
  sf:=h.sf
  sg:=h.sg
  fg:=h.fg
  ok:=h.ok
  fb:=hb
  gb:=h.gb }
theorem StoIn.setGiven {w:World}{s d f g:Nat}{st:ShS}(h:StoIn w s d f g st)(o:Obj)(L:List Int)(hs:SetI { w with heap:=w.heap.setIfInBounds g o } g L)(hb:∀ x∈L,2<=x/\x<640):StoIn { w with heap:=w.heap.setIfInBounds g o } s d f g { st with given:=L }:=
 {cell:=(iP w g s o h.sg).trans h.cell
  fr:=h.fr.kept (iP w g f o h.fg)
  gv:=hs
  sf:=h.sf
  sg:=h.sg
  fg:=h.fg
  ok:=h.ok
  fb:=h.fb
  gb:=hb }
theorem Frm.setIf {F:Nat->Prop}{a w:World}(h:Frm F a w)(r:Nat)(o:Obj)(hp:F r):Frm F a { w with heap:=w.heap.setIfInBounds r o }:=h.setObj r o (.inl hp)
theorem Sto.putFresh {w:World}{s d:Nat}{st:ShS}{F:Nat->Prop}(h:Sto w s d st F)(n:Int)(hn:n ∉ st.fresh)(h2:2<=n)(h6:n<640) :
  ∃ f w',w.cell? ⟨s,4,none⟩=some (.map (some f))/\(Instr.mapUpdate 150 (.map (some f)) (.int .i64 n) (.agg #[])).run Tryz.prog w=.ok () w'/\Sto w' s d { st with fresh:=st.fresh++[n] } F/\Frm F w w':=by
 obtain⟨f,g,hi,he⟩:=h;obtain⟨o,hr,hs⟩:=aE5 (P:=Tryz.prog) Tryz.underlying150 Tryz.underlying3 hi.fr n hn;obtain⟨c0,c1,c2,c3,c4,c5,c6⟩:=hi.cells;refine⟨f,_,c4,hr,⟨f,g,hi.setFresh o _ hs ?_,he⟩,(Frm.refl F w).setIf f o ((he f).2 (.inr (.inl rfl)))⟩;intro x hx
 rcases List.mem_append.1 hx with hx|hx
 ·exact hi.fb x hx
 ·simp at hx;subst hx;exact⟨h2,h6⟩
theorem Sto.putGiven {w:World}{s d:Nat}{st:ShS}{F:Nat->Prop}(h:Sto w s d st F)(n:Int)(hn:n ∉ st.given)(h2:2<=n)(h6:n<640) :
  ∃ f w',w.cell? ⟨s,5,none⟩=some (.map (some f))/\(Instr.mapUpdate 150 (.map (some f)) (.int .i64 n) (.agg #[])).run Tryz.prog w=.ok () w'/\Sto w' s d { st with given:=st.given++[n] } F/\Frm F w w':=by
 obtain⟨f,g,hi,he⟩:=h;obtain⟨o,hr,hs⟩:=aE5 (P:=Tryz.prog) Tryz.underlying150 Tryz.underlying3 hi.gv n hn;obtain⟨c0,c1,c2,c3,c4,c5,c6⟩:=hi.cells;refine⟨g,_,c5,hr,⟨f,g,hi.setGiven o _ hs ?_,he⟩,(Frm.refl F w).setIf g o ((he g).2 (.inr (.inr rfl)))⟩;intro x hx
 rcases List.mem_append.1 hx with hx|hx
 ·exact hi.gb x hx
 ·simp at hx;subst hx;exact⟨h2,h6⟩
theorem Sto.delFresh {w:World}{s d:Nat}{st:ShS}{F:Nat->Prop}(h:Sto w s d st F)(n:Int)(ty:TypeId) :
  ∃ f w',w.cell? ⟨s,4,none⟩=some (.map (some f))/\(Builtin.delete_ #[150,3] ty #[.map (some f),n]).run Tryz.prog w=.ok (.tuple #[]) w'/\Sto w' s d { st with fresh:=st.fresh.filter fun x=>decide (x≠n) } F/\Frm F w w':=by
 obtain⟨f,g,hi,he⟩:=h;obtain⟨o,hr,hs⟩:=delS (P:=Tryz.prog) Tryz.underlying150 Tryz.underlying3 hi.fr n ty;obtain⟨c0,c1,c2,c3,c4,c5,c6⟩:=hi.cells;exact⟨f,_,c4,hr,⟨f,g,hi.setFresh o _ hs (fun x hx=>hi.fb x (List.mem_filter.1 hx).1),he⟩,(Frm.refl F w).setIf f o ((he f).2 (.inr (.inl rfl)))⟩
theorem Sto.clearFresh {w:World}{s d:Nat}{st:ShS}{F:Nat->Prop}(h:Sto w s d st F)(ty:TypeId) :
  ∃ f w',w.cell? ⟨s,4,none⟩=some (.map (some f))/\(Builtin.clear_ #[150] ty #[.map (some f)]).run Tryz.prog w=.ok (.tuple #[]) w'/\Sto w' s d { st with fresh:=[] } F/\Frm F w w':=by
 obtain⟨f,g,hi,he⟩:=h;obtain⟨o,hr,hs⟩:=ZE (P:=Tryz.prog) Tryz.underlying150 hi.fr ty;obtain⟨c0,c1,c2,c3,c4,c5,c6⟩:=hi.cells;exact⟨f,_,c4,hr,⟨f,g,hi.setFresh o _ hs (fun x hx=>by cases hx),he⟩,(Frm.refl F w).setIf f o ((he f).2 (.inr (.inl rfl)))⟩
theorem Sto.clearGiven {w:World}{s d:Nat}{st:ShS}{F:Nat->Prop}(h:Sto w s d st F)(ty:TypeId) :
  ∃ f w',w.cell? ⟨s,5,none⟩=some (.map (some f))/\(Builtin.clear_ #[150] ty #[.map (some f)]).run Tryz.prog w=.ok (.tuple #[]) w'/\Sto w' s d { st with given:=[] } F/\Frm F w w':=by
 obtain⟨f,g,hi,he⟩:=h;obtain⟨o,hr,hs⟩:=ZE (P:=Tryz.prog) Tryz.underlying150 hi.gv ty;obtain⟨c0,c1,c2,c3,c4,c5,c6⟩:=hi.cells;exact⟨g,_,c5,hr,⟨f,g,hi.setGiven o _ hs (fun x hx=>by cases hx),he⟩,(Frm.refl F w).setIf g o ((he g).2 (.inr (.inr rfl)))⟩
def ShS.back (st:ShS):ShS:={ st with fresh:=[],given:=[] }
theorem AK (w:World)(s d:Nat)(st:ShS)(F:Nat->Prop)(h:Sto w s d st F) :
  () 70 #[s] w (EF fun w'=>Sto w' s d st.back F/\Frm F w w'):=by
 obtain⟨f,w1,c4,hr1,h1,f1⟩:=h.clearFresh 0;obtain⟨g,w2,c5,hr2,h2,f2⟩:=h1.clearGiven 0;have FIN:Hid (Sto w2 s d st.back F/\Frm F w w2):=Hd ⟨h2,f1.trans f2 (fun i hi=>.inl hi)⟩;clear h h1 h2 f1 f2;go_enter Tryz.func70,Tryz.ntmps70;go_wp2_with fail
 go_end0
 exact⟨rfl,FIN.o⟩
theorem IY {st:ShS}{n:Int}(h:lZ st n=false):gI st.h.used n=true\/(gI st.h.used n=false/\decide (n∈st.fresh)=true):=by
 unfold lZ at h
 cases h1:gI st.h.used n <;> cases h2:decide (n∈st.fresh) <;> simp_all
theorem zY (w:World)(s d:Nat)(dk:DkS)(st:ShS)(FD F:Nat->Prop)(hd:Dk w d dk FD)(h:Sto w s d st F)(hu:st.up=true)(j:Nat)(h2:2<=j)(hj:(j:Int)<(dk.S.length:Int))(hall:∀ k:Nat,2<=k->k<j->lZ st (k:Int)=false)(hf:lZ st (j:Int)=true) :
  () 160 #[s] w fun e w'=>e=.returned (.tuple #[(j:Int),(0:Int)])/\Sto w' s d { st with fresh:=st.fresh++[(j:Int)] } F/\Frm F w w':=by
 have hz:=hd.ok.few;have hj6:j<640:=by omega
 have hnf:(j:Int) ∉ st.fresh/\gI st.h.used (j:Int)=false/\decide ((j:Int)∈st.fresh)=false:=by
  unfold lZ at hf;simp only[Bool.and_eq_true,Bool.not_eq_true'] at hf;exact⟨by simpa using hf.2,hf.1,hf.2⟩
 have SZ:=Hd (fun w' (hb:Below w.heap.size w w')=>sX w' s d st F (h.below hb) dk FD (hd.below hb));have US:=Hd (fun(k:Nat) (hk:k<=640) w' (hb:Below w.heap.size w w')=>KO w' s d st F (h.below hb) (k:Int) (by omega));have HA:=Hd hall;obtain⟨f0,g0,hi0,he0⟩:=h;have PH:=Hd (fun(k:Nat) w' (hb:Below w.heap.size w w')=>kS f0 st.fresh (k:Int) w' (hi0.kept (fun k hk=>hb.block k (hi0.lt k hk))).fr);have CE:=Hd (fun w' (hb:Below w.heap.size w w')=>(hi0.kept (fun k hk=>hb.block k (hi0.lt k hk))).cells)
 have PU:Hid (∀ w' (hb:Below w.heap.size w w'),∃ w2,(Instr.mapUpdate 150 (.map (some f0)) (.int .i64 (j:Int)) (.agg #[])).run Tryz.prog w'=.ok () w2/\Sto w2 s d { st with fresh:=st.fresh++[(j:Int)] } F/\Frm F w w2):=Hd (fun w' hb=>by
  have hk:=hi0.kept (fun k hk=>hb.block k (hi0.lt k hk));obtain⟨f,w2,q1,q2,q3,q4⟩:=Sto.putFresh (F:=F) ⟨f0,g0,hk,he0⟩ (j:Int) hnf.1 (by omega) (by omega);rw[hk.cells.2.2.2.2.1] at q1
  cases q1
  exact⟨w2,q2,q3,(Frm.of_below hb).trans q4 (fun i hi=>.inl hi)⟩)
 obtain⟨c0,c1,c2,c3,c4,c5,c6⟩:=hi0.cells;rw[hu] at c6;obtain⟨nf1,nf2,nf3⟩:=hnf;generalize (dk.S.length:Int)=z at *;clear hi0 he0 hall hf hd;go_enter Tryz.func160,Tryz.ntmps160;go_wp2_with fail
 go_loopw [4] (fun i wr=>∃ k:Nat,2<=k/\k<=j/\i=.int .i64 (k:Int)/\Below w.heap.size w wr) (fun i _=>641-(intOf i).toNat)
 case atStart=>exact⟨2,Nat.le_refl _,h2,rfl,Br⟩
 case round=>
  obtain⟨k,hk2,hkj,rfl,hb⟩:=hrel;have HB:=Hd hb;have S1:=Hd (SZ wr hb);have U1:=Hd (US k (by omega) wr hb);have P1:=Hd (PH k wr hb);obtain⟨x0,x1,x2,x3,x4,x5,x6⟩:=CE wr hb;have hkz:(k:Int)<z:=by omega
  clear hb c0 c1 c2 c3 c4 c5 c6
  by_cases hlt:k<j
  ·rcases IY (HA k hk2 hlt) with q1|⟨q1,q2⟩
   ·rw[q1] at U1
    go_wp2_with fail;refine S1.mono ?_;rintro e w1 ⟨rfl,rfl⟩;go_wp2_with fail;refine U1.mono ?_;rintro e w1 ⟨rfl,rfl⟩;go_wp2_with fail;go_roundw
    case rel=>exact⟨k+1,by omega,by omega,by go_num,HB.o⟩
    case measure=>simp[intOf];omega
   ·rw[q1] at U1
    rw[q2] at P1;go_wp2_with fail;refine S1.mono ?_;rintro e w1 ⟨rfl,rfl⟩;go_wp2_with fail;refine U1.mono ?_;rintro e w1 ⟨rfl,rfl⟩;go_wp2_with fail;refine P1.mono ?_;rintro e w2 ⟨rfl,b2⟩;have B2:=Hd (chain HB b2);clear b2;go_wp2_with fail;go_roundw
    case rel=>exact⟨k+1,by omega,by omega,by go_num,B2.o⟩
    case measure=>simp[intOf];omega
  ·obtain rfl:k=j:=by omega
   rw[nf2] at U1;rw[nf3] at P1;go_wp2_with fail;refine S1.mono ?_;rintro e w1 ⟨rfl,rfl⟩;go_wp2_with fail;refine U1.mono ?_;rintro e w1 ⟨rfl,rfl⟩;go_wp2_with fail;refine P1.mono ?_;rintro e w2 ⟨rfl,b2⟩;have B2:=chain HB b2;obtain⟨y0,y1,y2,y3,y4,y5,y6⟩:=CE w2 B2;obtain⟨w3,hup,h3,f3⟩:=PU w2 B2;have FIN:=Hd (And.intro h3 f3);clear b2 h3 f3 B2 x0 x1 x2 x3 x4 x5 x6;go_wp2_with fail;try rw[Exit.noGoto_ret]
   go_ret2;exact⟨rfl,FIN.o⟩
def ShS.give (st:ShS)(n:Int):ShS × Int:=
 if st.up=false then(st,5) else if n∈st.fresh then({ st with fresh:=st.fresh.filter fun x=>decide (x≠n) },0)
 else if gI st.h.used n=true/\n ∉ st.given then({ st with given:=st.given++[n] },0) else(st,6)
theorem xZ (w:World)(s d:Nat)(st:ShS)(F:Nat->Prop)(h:Sto w s d st F)(n:Int)(hn:n<9223372036854775808)(hb:gI st.h.used n=true->2<=n/\n<640) :
  () 135 #[s,n] w fun e w'=>e=.returned (.int .i64 (st.give n).2)/\Sto w' s d (st.give n).1 F/\Frm F w w':=by
 have H:=Hd h;have US:=Hd (fun w' (hb:Below w.heap.size w w')=>KO w' s d st F (h.below hb) n hn);obtain⟨f0,g0,hi0,he0⟩:=h;have PF:=Hd (kS f0 st.fresh n w hi0.fr);have PG:=Hd (fun w' (hb:Below w.heap.size w w')=>kS g0 st.given n w' (hi0.kept (fun k hk=>hb.block k (hi0.lt k hk))).gv);have CE:=Hd (fun w' (hb:Below w.heap.size w w')=>(hi0.kept (fun k hk=>hb.block k (hi0.lt k hk))).cells)
 have PD:Hid (∀ w' (hb:Below w.heap.size w w'),∃ w2,(Builtin.delete_ #[150,3] 0 #[.map (some f0),n]).run Tryz.prog w'=.ok (.tuple #[]) w2/\Sto w2 s d { st with fresh:=st.fresh.filter fun x=>decide (x≠n) } F/\Frm F w w2):=Hd (fun w' hb=>by
  have hk:=hi0.kept (fun k hk=>hb.block k (hi0.lt k hk));obtain⟨f,w2,q1,q2,q3,q4⟩:=Sto.delFresh (F:=F) ⟨f0,g0,hk,he0⟩ n 0;rw[hk.cells.2.2.2.2.1] at q1
  cases q1
  exact⟨w2,q2,q3,(Frm.of_below hb).trans q4 (fun i hi=>.inl hi)⟩)
 have PU:Hid (gI st.h.used n=true->n ∉ st.given->∀ w' (hb:Below w.heap.size w w'),∃ w2,(Instr.mapUpdate 150 (.map (some g0)) (.int .i64 n) (.agg #[])).run Tryz.prog w'=.ok () w2/\Sto w2 s d { st with given:=st.given++[n] } F/\Frm F w w2):=Hd (fun hu hg w' hbl=>by
  have hk:=hi0.kept (fun k hk=>hbl.block k (hi0.lt k hk));obtain⟨f,w2,q1,q2,q3,q4⟩:=Sto.putGiven (F:=F) ⟨f0,g0,hk,he0⟩ n hg (hb hu).1 (hb hu).2;rw[hk.cells.2.2.2.2.2.1] at q1
  cases q1
  exact⟨w2,q2,q3,(Frm.of_below hbl).trans q4 (fun i hi=>.inl hi)⟩)
 obtain⟨c0,c1,c2,c3,c4,c5,c6⟩:=hi0.cells;clear hi0 he0 hb hn
 cases hu:st.up
 ·rw[show st.give n=(st,5) from by unfold ShS.give;rw[hu];rfl]
  rw[hu] at c6;go_enter Tryz.func135,Tryz.ntmps135;go_wp2_with fail;go_ret;exact⟨rfl,H.o,Frm.refl _ _⟩
 ·rw[hu] at c6
  by_cases h1:n∈st.fresh
  ·rw[show st.give n=({ st with fresh:=st.fresh.filter fun x=>decide (x≠n) },0) from by unfold ShS.give;rw[hu,if_neg (by decide),if_pos h1]]
   rw[decide_eq_true h1] at PF;clear h1 PU
   dsimp only
   go_enter Tryz.func135,Tryz.ntmps135;go_wp2_with fail;refine PF.mono ?_;rintro e w1 ⟨rfl,b1⟩;obtain⟨x0,x1,x2,x3,x4,x5,x6⟩:=CE w1 b1;obtain⟨w2,hdel,h2,f2⟩:=PD w1 b1;have FIN:=Hd (And.intro h2 f2);clear h2 f2 b1 c0 c1 c2 c3 c4 c5 c6;go_wp2_with fail;go_ret;exact⟨rfl,FIN.o⟩
  ·rw[decide_eq_false h1] at PF
   cases hus:gI st.h.used n
   ·rw[show st.give n=(st,6) from by unfold ShS.give;rw[hu,if_neg (by decide),if_neg h1,hus,if_neg (by simp)]]
    rw[hus] at US;clear h1 PU PD;go_enter Tryz.func135,Tryz.ntmps135;go_wp2_with fail;refine PF.mono ?_;rintro e w1 ⟨rfl,b1⟩;have U1:=Hd (US w1 b1);have FIN:=Hd (And.intro (H.below b1) (Frm.of_below (F:=F) b1));obtain⟨x0,x1,x2,x3,x4,x5,x6⟩:=CE w1 b1;clear b1 c0 c1 c2 c3 c4 c5 c6;go_wp2_with fail;refine U1.mono ?_;rintro e w2 ⟨rfl,rfl⟩;go_wp2_with fail;go_ret;exact⟨rfl,FIN.o⟩
   ·rw[hus] at US
    by_cases h2:n∈st.given
    ·rw[show st.give n=(st,6) from by unfold ShS.give;rw[hu,if_neg (by decide),if_neg h1,hus,if_neg (by simp[h2])]]
     rw[decide_eq_true h2] at PG;clear h1 h2 PU PD;go_enter Tryz.func135,Tryz.ntmps135;go_wp2_with fail;refine PF.mono ?_;rintro e w1 ⟨rfl,b1⟩;have B1:=Hd b1;have U1:=Hd (US w1 b1);have G1:=Hd (PG w1 b1);obtain⟨x0,x1,x2,x3,x4,x5,x6⟩:=CE w1 b1;clear b1 c0 c1 c2 c3 c4 c5 c6;go_wp2_with fail;refine U1.mono ?_;rintro e w2 ⟨rfl,rfl⟩;go_wp2_with fail;refine G1.mono ?_;rintro e w2 ⟨rfl,b2⟩;have b3:=chain B1 b2;have FIN:=Hd (And.intro (H.below b3) (Frm.of_below (F:=F) b3));clear b2 b3;go_wp2_with fail;go_ret;exact⟨rfl,FIN.o⟩
    ·rw[show st.give n=({ st with given:=st.given++[n] },0) from by unfold ShS.give;rw[hu,if_neg (by decide),if_neg h1,if_pos ⟨hus,h2⟩]]
     rw[decide_eq_false h2] at PG;have PV:=Hd (PU hus h2);clear h1 h2 PU PD hus
     dsimp only
     go_enter Tryz.func135,Tryz.ntmps135;go_wp2_with fail;refine PF.mono ?_;rintro e w1 ⟨rfl,b1⟩;have B1:=Hd b1;have U1:=Hd (US w1 b1);have G1:=Hd (PG w1 b1);obtain⟨x0,x1,x2,x3,x4,x5,x6⟩:=CE w1 b1;clear b1 c0 c1 c2 c3 c4 c5 c6;go_wp2_with fail;refine U1.mono ?_;rintro e w2 ⟨rfl,rfl⟩;go_wp2_with fail;refine G1.mono ?_;rintro e w2 ⟨rfl,b2⟩;have b3:=chain B1 b2;obtain⟨y0,y1,y2,y3,y4,y5,y6⟩:=CE w2 b3;obtain⟨w4,hup,h4,f4⟩:=PV w2 b3;have FIN:=Hd (And.intro h4 f4);clear b2 b3 h4 f4 x0 x1 x2 x3 x4 x5 x6;go_wp2_with fail;go_ret
     exact⟨rfl,FIN.o⟩
