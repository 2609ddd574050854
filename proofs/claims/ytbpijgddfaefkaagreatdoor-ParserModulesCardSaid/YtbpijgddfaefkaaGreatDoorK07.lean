/-
  The parser's methods that read a name or a number; Arms of a walk over variables that hold an expression; the frame of a method of a scope; Steps of a walk through a region of open order, an operation at a time; A factor of a unit; A list of factors.
-/
import Derived.BigRegion
import Derived.Test.YtbpijgddfaefkaaGreatDoorK06
import Derived.Test.YtbpijgddfaefkaaGreatDoorProg
set_option maxRecDepth 100000
set_option maxHeartbeats 16000000
namespace Go.Proofs.YtbpijgddfaefkaaGreatDoor
namespace pa
open Go.RowKit dec
theorem aC {α β:Type} (v:α) (l:List Tk) (g:α→List Tk→Rs β):(Rs.ok v l).bind g=g v l:=rfl
theorem bno {α β:Type} {x:Rs α} {f:α→List Tk→Rs β} {r:Rs β} {a c:Int} {l:List Tk} (h:Go.RowKit.Hid (x.bind f=r)) (e:x=.no a c l):Go.RowKit.Hid (r=.no a c l):=by
 have h:=h.o;rw [e] at h;exact h.symm
theorem bou {α β:Type} {x:Rs α} {f:α→List Tk→Rs β} {r:Rs β} {P:Prop} (h:Go.RowKit.Hid (x.bind f=r)) (e:x=.out) (n:Go.RowKit.Hid (r≠.out)):P:=by
  have h:=h.o
  rw [e] at h
  exact absurd h.symm n.o
theorem jd {α:Type} (x:Rs α):(x.bind fun v r=>.ok v r)=x:=by cases x <;> rfl
theorem qC {k:Int} {l r:List Tk} {v:ByteArray} (h:Tl l) (hk:tak k l=.ok v r):v.size≤1048576:=by
 unfold tak at hk;split at hk
 ·cases hk;exact h.hd
 cases hk
def lT (l:List Tk):Rs Unit:=if (hd l).k=6 then .ok () l else wrg l
theorem kU (B:Nat) (l:List Tk) (w:World) (h:Ps w B l) (r:Rs ByteArray) (hr:nam l=r) (hne:r≠.out) :
    Calls Tryz.prog 94 #[.pointer (some ⟨B,0,none⟩)] w (Pst B Sv r w):=by
 have P:=Hy h;have M:=Hy (Mv.refl w.heap.size B w);have NE:=Hy hne;unfold nam at hr;have HR:=Hy hr;clear h hne hr;have C1:=Hy (eO B l w P.o);have C2:=Hy (fun W=>Go.Proofs.YtbpijgddfaefkaaGreatDoor.HV (hd l).t P.o.tl.hd W);have C4:=Hy (fun W=>gT B l W);have F1:=tf1;have F2:=gJ;replace HR:=HR.o;cases hn:Go.Proofs.YtbpijgddfaefkaaGreatDoor.name (hd l).t
 ·rw [hn] at C2;rw [hn,if_neg (by decide)] at HR;unfold wrg at HR;replace HR:=Hy HR;clear hn;generalize hd l=x at *;obtain ⟨xk,xt,xa⟩:=x;simp only at C1 C2 C4
  go_enter Tryz.func94,Tryz.ntmps94
  go_wp2_with fail;refine (C1.o).mono ?_;rintro e w1 ⟨rfl,b⟩;have mm:=Mv.of (B:=B) b;replace M:=Hy (M.o.next mm);replace P:=Hy (P.o.keeps b);clear mm b;go_wp2_with fail;refine (C2.o w1 P.o.tabs).mono ?_;rintro e w2 ⟨rfl,b⟩;have mm:=Mv.of (B:=B) b;replace M:=Hy (M.o.next mm);replace P:=Hy (P.o.keeps b);clear mm b;go_wp2_with fail;refine (C4.o w2 P.o).mono ?_;rintro e w3 ⟨rfl,b⟩;have mm:=Mv.of (B:=B) b;replace M:=Hy (M.o.next mm);replace P:=Hy (P.o.keeps b);clear mm b;go_wp2_with fail;exact ⟨rfl,aI HR.o.symm P.o M.o⟩
 rw [hn] at C2;rw [hn,if_pos rfl,← jd (tak 1 l)] at HR;replace HR:=Hy HR;clear hn C4;generalize hd l=x at *;obtain ⟨xk,xt,xa⟩:=x;simp only at C1 C2
 go_enter Tryz.func94,Tryz.ntmps94
 go_wp2_with fail;refine (C1.o).mono ?_;rintro e w1 ⟨rfl,b⟩;have mm:=Mv.of (B:=B) b;replace M:=Hy (M.o.next mm);replace P:=Hy (P.o.keeps b);clear mm b;go_wp2_with fail;refine (C2.o w1 P.o.tabs).mono ?_;rintro e w2 ⟨rfl,b⟩;have mm:=Mv.of (B:=B) b;replace M:=Hy (M.o.next mm);replace P:=Hy (P.o.keeps b);clear mm b;go_wp2_with fail;refine (jD B 1 (by decide) l w2 P.o).mono ?_;rintro e w3 h3;rcases hG3:tak 1 l with _ | ⟨v3,l3⟩ | ⟨a3,c3,l3⟩
 ·exact bou HR hG3 NE
 rotate_left
 ·rw [hG3] at h3;obtain ⟨rfl,pp,mm⟩:=h3;unfold thr;have hno:=bno HR hG3;have PP:=Hy pp;have MM:=Hy (M.o.next mm);clear pp mm hG3;go_wp2_with fail;exact ⟨rfl,aI hno.o PP.o MM.o⟩
 rw [hG3] at h3;obtain ⟨u3,rfl,vv,pp,mm⟩:=h3;replace HR:=HR.o;rw [hG3] at HR;simp only [aC] at HR;replace HR:=Hy HR;replace M:=Hy (M.o.next mm);replace P:=Hy pp;clear pp mm hG3;obtain rfl:u3=.string v3:=vv;go_wp2_with fail;go_ret;exact aQ (by rw [← HR.o]) rfl P.o M.o
theorem iM (B:Nat) (s:ByteArray) (l:List Tk) (w:World) (h:Ps w B l) (r:Rs ByteArray) (hr:nma s l=r) (hne:r≠.out) :
    Calls Tryz.prog 120 #[.pointer (some ⟨B,0,none⟩),.string s] w (Pst B Sv r w):=by
 have P:=Hy h;have M:=Hy (Mv.refl w.heap.size B w);have NE:=Hy hne;unfold nma at hr
 conv at hr=>lhs;arg 2;ext _ r;rw [← jd (nam r)]
 have HR:=Hy hr;clear h hne hr
 go_enter Tryz.func120,Tryz.ntmps120
 go_wp2_with fail;refine (aY B s l w P.o).mono ?_;rintro e w1 h1;rcases hG1:need s l with _ | ⟨v1,l1⟩ | ⟨a1,c1,l1⟩
 ·exact bou HR hG1 NE
 rotate_left
 ·rw [hG1] at h1;obtain ⟨rfl,pp,mm⟩:=h1;unfold thr;have hno:=bno HR hG1;have PP:=Hy pp;have MM:=Hy (M.o.next mm);clear pp mm hG1;go_wp2_with fail;exact ⟨rfl,aI hno.o PP.o MM.o⟩
 rw [hG1] at h1;obtain ⟨u1,rfl,vv,pp,mm⟩:=h1;replace HR:=HR.o;rw [hG1] at HR;simp only [aC] at HR;replace HR:=Hy HR;replace M:=Hy (M.o.next mm);replace P:=Hy pp;clear pp mm hG1;obtain rfl:u1=.tuple #[]:=vv;go_wp2_with fail;refine (kU B l1 w1 P.o _ rfl (dS _)).mono ?_;rintro e w2 h2;rcases hG2:nam l1 with _ | ⟨v2,l2⟩ | ⟨a2,c2,l2⟩
 ·exact bou HR hG2 NE
 rotate_left
 ·rw [hG2] at h2;obtain ⟨rfl,pp,mm⟩:=h2;unfold thr;have hno:=bno HR hG2;have PP:=Hy pp;have MM:=Hy (M.o.next mm);clear pp mm hG2;go_wp2_with fail;exact ⟨rfl,aI hno.o PP.o MM.o⟩
 rw [hG2] at h2;obtain ⟨u2,rfl,vv,pp,mm⟩:=h2;replace HR:=HR.o;rw [hG2] at HR;simp only [aC] at HR;replace HR:=Hy HR;replace M:=Hy (M.o.next mm);replace P:=Hy pp;clear pp mm hG2;obtain rfl:u2=.string v2:=vv;go_wp2_with fail;go_ret;exact aQ (by rw [← HR.o]) rfl P.o M.o
theorem dQ (B:Nat) (l:List Tk) (w:World) (h:Ps w B l) (r:Rs Int) (hr:int l=r) (hne:r≠.out) :
    Calls Tryz.prog 123 #[.pointer (some ⟨B,0,none⟩)] w (Pst B Iv r w):=by
 have P:=Hy h;have M:=Hy (Mv.refl w.heap.size B w);have NE:=Hy hne;unfold int at hr;have HR:=Hy hr;clear h hne hr;have SZ:=Hy (fun v l1=>qC (k:=2) (l:=l) (v:=v) (r:=l1) P.o.tl)
 go_enter Tryz.func123,Tryz.ntmps123
 go_wp2_with fail;refine (jD B 2 (by decide) l w P.o).mono ?_;rintro e w1 h1;rcases hG1:tak 2 l with _ | ⟨v1,l1⟩ | ⟨a1,c1,l1⟩
 ·exact bou HR hG1 NE
 rotate_left
 ·rw [hG1] at h1;obtain ⟨rfl,pp,mm⟩:=h1;unfold thr;have hno:=bno HR hG1;have PP:=Hy pp;have MM:=Hy (M.o.next mm);clear pp mm hG1;go_wp2_with fail;exact ⟨rfl,aI hno.o PP.o MM.o⟩
 rw [hG1] at h1;obtain ⟨u1,rfl,vv,pp,mm⟩:=h1;replace HR:=HR.o;rw [hG1] at HR;simp only [aC] at HR;replace HR:=Hy HR;replace M:=Hy (M.o.next mm);replace P:=Hy pp;clear pp mm;replace hG1:=Hy hG1;obtain rfl:u1=.string v1:=vv;go_wp2_with fail;refine (y5 v1 (SZ.o v1 l1 hG1.o) w1 P.o.tabs).mono ?_;rintro e w2 ⟨x,rfl,b⟩;have mm:=Mv.of (B:=B) b;replace M:=Hy (M.o.next mm);replace P:=Hy (P.o.keeps b);clear mm b;go_wp2_with fail;go_ret;exact aQ (by rw [← HR.o]) rfl P.o M.o
theorem FZ (B:Nat) (l:List Tk) (w:World) (h:Ps w B l) (r:Rs Int) (hr:iX l=r) (hne:r≠.out) :
    Calls Tryz.prog 217 #[.pointer (some ⟨B,0,none⟩)] w (Pst B Iv r w):=by
 have P:=Hy h;have M:=Hy (Mv.refl w.heap.size B w);have NE:=Hy hne;unfold iX at hr;have HR:=Hy hr;clear h hne hr;have SZ:=Hy (fun v l1=>qC (k:=3) (l:=l) (v:=v) (r:=l1) P.o.tl)
 go_enter Tryz.func217,Tryz.ntmps217
 go_wp2_with fail;refine (jD B 3 (by decide) l w P.o).mono ?_;rintro e w1 h1;rcases hG1:tak 3 l with _ | ⟨v1,l1⟩ | ⟨a1,c1,l1⟩
 ·exact bou HR hG1 NE
 rotate_left
 ·rw [hG1] at h1;obtain ⟨rfl,pp,mm⟩:=h1;unfold thr;have hno:=bno HR hG1;have PP:=Hy pp;have MM:=Hy (M.o.next mm);clear pp mm hG1;go_wp2_with fail;exact ⟨rfl,aI hno.o PP.o MM.o⟩
 rw [hG1] at h1;obtain ⟨u1,rfl,vv,pp,mm⟩:=h1;replace HR:=HR.o;rw [hG1] at HR;simp only [aC] at HR;replace HR:=Hy HR;replace M:=Hy (M.o.next mm);replace P:=Hy pp;clear pp mm;replace hG1:=Hy hG1;obtain rfl:u1=.string v1:=vv;go_wp2_with fail;refine (vE v1 w1 (by have:=SZ.o v1 l1 hG1.o;omega) P.o.tabs.pow).mono ?_;rintro e w2 ⟨rfl,b⟩;have mm:=Mv.of (B:=B) b;replace M:=Hy (M.o.next mm);replace P:=Hy (P.o.keeps b);clear mm b;go_wp2_with fail;go_ret;exact aQ (by rw [← HR.o]) rfl P.o M.o
theorem Jm (B:Nat) (l:List Tk) (w:World) (h:Ps w B l) (r:Rs Unit) (hr:lT l=r) (hne:r≠.out) :
    Calls Tryz.prog 88 #[.pointer (some ⟨B,0,none⟩)] w (Pst B Nv r w):=by
 have P:=Hy h;have M:=Hy (Mv.refl w.heap.size B w);have NE:=Hy hne;unfold lT wrg at hr;have HR:=Hy hr;clear h hne hr;have C1:=Hy (eO B l w P.o);have C4:=Hy (fun W=>gT B l W);have F1:=tf0;have F2:=gJ;replace HR:=HR.o;generalize hd l=x at *;obtain ⟨xk,xt,xa⟩:=x;simp only at C1 C4 HR;by_cases hk:xk=6
 ·have q1:(xk != 6)=false:=by simp [hk]
  rw [if_pos hk] at HR;replace HR:=Hy HR;clear hk
  go_enter Tryz.func88,Tryz.ntmps88
  go_wp2_with fail;refine (C1.o).mono ?_;rintro e w1 ⟨rfl,b⟩;have mm:=Mv.of (B:=B) b;replace M:=Hy (M.o.next mm);replace P:=Hy (P.o.keeps b);clear mm b;go_wp2_with fail;go_end0;exact aQ HR.o.symm rfl P.o M.o
 have q1:(xk != 6)=true:=by simp [hk]
 rw [if_neg hk] at HR;replace HR:=Hy HR;clear hk
 go_enter Tryz.func88,Tryz.ntmps88
 go_wp2_with fail;refine (C1.o).mono ?_;rintro e w1 ⟨rfl,b⟩;have mm:=Mv.of (B:=B) b;replace M:=Hy (M.o.next mm);replace P:=Hy (P.o.keeps b);clear mm b;go_wp2_with fail;refine (C4.o w1 P.o).mono ?_;rintro e w2 ⟨rfl,b⟩;have mm:=Mv.of (B:=B) b;replace M:=Hy (M.o.next mm);replace P:=Hy (P.o.keeps b);clear mm b;go_wp2_with fail;exact ⟨rfl,aI HR.o.symm P.o M.o⟩
end pa
section
open Go.RowKit dec
theorem aK:(Tryz.prog.info? 43).map (·.size)=some 12:=by kernel_rfl
theorem aO {ops:Array Oper} {rest:List Oper} {o:Oper} {a:Act} {w:World} {Q:Exit→Act→World→Prop} (x y:Operand) (ho:o.op=.store 43 x y) (hgd:o.guard=none)
  (g:Nat) (T:TypeId) (cells old:Array Value) (hx:a.eval x=.pointer (some ⟨g,0,none⟩)) (hy:a.eval y=.agg cells) (hB:Blk w g T old) (hs:old.size=12) (hc:cells.size=12) (h1:cells.all (·.oneCell')=true)
  (h:∀ w',Blk w' g T cells→St g w w'→wpList Tryz.prog ops Q rest (a.put o.dst undef) w'):wpList Tryz.prog ops Q (o :: rest) a w :=
 wpList_store_row hgd 43 x y ho g cells hx hy T old hB (by rw [hc];exact aK) (by omega) h1 (h _ (jY hB cells) (lC w g cells))
theorem aZ {ops:Array Oper} {rest:List Oper} {o:Oper} {a:Act} {w:World} {Q:Exit→Act→World→Prop} (x:Operand) (ho:o.op=.load 43 x) (hgd:o.guard=none)
  (g:Nat) (T:TypeId) (cells:Array Value) (hx:a.eval x=.pointer (some ⟨g,0,none⟩)) (hB:Blk w g T cells) (hc:cells.size=12)
  (h:wpList Tryz.prog ops Q rest (a.put o.dst (.agg cells)) w):wpList Tryz.prog ops Q (o :: rest) a w :=
 wpList_load_row hgd 43 x ho g hx T cells (0,0) _ hB Tryz.underlying43 rfl (by rw [hc];exact aK) h
def tZ:TypeDesc→Bool
 | .struct _=>true
 | .array _ _=>true
 | _=>false
theorem aA {T:TypeId} {n:Nat} (hi:(Tryz.prog.info? T).map (·.size)=some n) {ops:Array Oper} {rest:List Oper} {o:Oper} {a:Act} {w:World} {Q:Exit→Act→World→Prop} (x y:Operand) (ho:o.op=.store T x y) (hgd:o.guard=none)
  (g:Nat) (T':TypeId) (cells old:Array Value) (hx:a.eval x=.pointer (some ⟨g,0,none⟩)) (hy:a.eval y=.agg cells) (hB:Blk w g T' old) (hs:old.size=n) (hc:cells.size=n) (h1:cells.all (·.oneCell')=true)
  (h:∀ w',Blk w' g T' cells→St g w w'→wpList Tryz.prog ops Q rest (a.put o.dst undef) w'):wpList Tryz.prog ops Q (o :: rest) a w :=
 wpList_store_row hgd T x y ho g cells hx hy T' old hB (by rw [hc];exact hi) (by omega) h1 (h _ (jY hB cells) (lC w g cells))
theorem aH {T:TypeId} {n:Nat} {d:TypeDesc} (hi:(Tryz.prog.info? T).map (·.size)=some n) (hu:Tryz.prog.underlying T=some d) (hd:tZ d=true)
  {ops:Array Oper} {rest:List Oper} {o:Oper} {a:Act} {w:World} {Q:Exit→Act→World→Prop} (x:Operand) (ho:o.op=.load T x) (hgd:o.guard=none)
  (g:Nat) (T':TypeId) (cells:Array Value) (hx:a.eval x=.pointer (some ⟨g,0,none⟩)) (hB:Blk w g T' cells) (hc:cells.size=n)
  (h:wpList Tryz.prog ops Q rest (a.put o.dst (.agg cells)) w):wpList Tryz.prog ops Q (o :: rest) a w :=
 wpList_load_row hgd T x ho g hx T' cells (0,0) d hB hu (by cases d <;> first | rfl | cases hd) (by rw [hc];exact hi) h
theorem bO {T:TypeId} {n:Nat} {d:TypeDesc} (hi:(Tryz.prog.info? T).map (·.size)=some n) (hu:Tryz.prog.underlying T=some d) (hd:tZ d=true)
  {fn:Func} {R:Ending→World→Prop} {p:Tmp} (h:fn.results=#[.cell p T]) (tmps:Array Value) (w:World) (g:Nat) (T':TypeId) (cells:Array Value) (hp:tmps.getD p undef=.pointer (some ⟨g,0,none⟩))
  (hB:Blk w g T' cells) (hc:cells.size=n) (hR:R (.returned (.agg cells)) w):bodyPost Tryz.prog fn R .ret ⟨tmps,[]⟩ w :=
 bodyPost_ret (results_cell_row h tmps w g T' cells (0,0) d hp hB hu (by cases d <;> first | rfl | cases hd) (by rw [hc];exact hi)) rfl hR
theorem dG (x y:Operand) {o:Oper} {a:Act} {w:World} {K:Act→World→Prop} {Q:Exit→Act→World→Prop} (ho:o.op=.store 43 x y)
  (g:Nat) (T':TypeId) (cells old:Array Value) (hx:a.eval x=.pointer (some ⟨g,0,none⟩)) (hy:a.eval y=.agg cells) (hB:Blk w g T' old) (hs:old.size=12) (hc:cells.size=12) (h1:cells.all (·.oneCell')=true)
  (h:∀ w',Blk w' g T' cells→St g w w'→K (a.put o.dst undef) w'):o.wp Tryz.prog a w K Q :=
 wp_store_row 43 x y ho g cells hx hy T' old hB (by rw [hc];exact aK) (by omega) h1 (h _ (jY hB cells) (lC w g cells))
theorem fF (x:Operand) {o:Oper} {a:Act} {w:World} {K:Act→World→Prop} {Q:Exit→Act→World→Prop} (ho:o.op=.load 43 x)
  (g:Nat) (T':TypeId) (cells:Array Value) (hx:a.eval x=.pointer (some ⟨g,0,none⟩)) (hB:Blk w g T' cells) (hc:cells.size=12)
  (h:K (a.put o.dst (.agg cells)) w):o.wp Tryz.prog a w K Q :=
 wp_load_row 43 x ho g hx T' cells (0,0) _ hB Tryz.underlying43 rfl (by rw [hc];exact aK) h
theorem bE {T:TypeId} {n:Nat} {d:TypeDesc} (hi:(Tryz.prog.info? T).map (·.size)=some n) (hu:Tryz.prog.underlying T=some d) (hd:tZ d=true) {oi:Oper} {a:Act} {w:World} (x:Operand) (ho:oi.op=.load T x)
    (g:Nat) (T':TypeId) (cells:Array Value) (hx:a.eval x=.pointer (some ⟨g,0,none⟩)) (hB:Blk w g T' cells) (hc:cells.size=n):(execOp a.eval oi).run Tryz.prog w=.ok (.value (.agg cells)) w:=by
 unfold execOp;have:=run_loadVar_row (P:=Tryz.prog) w g T' T cells (0,0) d hB hu (by cases d <;> first | rfl | cases hd) (by rw [hc];exact hi);simp only [ho,hx,Instr.loadAt,Instr.sureAddr,Sem.run_bind,Sem.run_pure,Result.andThen_ok,this]
theorem sM:(Tryz.prog.info? 99).map (·.size)=some 2:=by kernel_rfl
theorem cK:(Tryz.prog.info? 55).map (·.size)=some 2:=by kernel_rfl
theorem bq:(Tryz.prog.info? 47).map (·.size)=some 3:=by kernel_rfl
theorem eu:(Tryz.prog.info? 40).map (·.size)=some 2:=by kernel_rfl
theorem qb:(Tryz.prog.info? 140).map (·.size)=some 4:=by kernel_rfl
theorem aJ (x:Ex) (ua:Option Addr) (uc:Nat) (aa:Option Addr) (ac:Nat):(exC x ua uc aa ac).all (·.oneCell')=true:=by simp [exC,Value.oneCell']
def zE:Array Value:=#[.int .i64 0,.string ⟨#[]⟩,.string ⟨#[]⟩,.string ⟨#[]⟩,.int .i64 0,.int .i64 0,.string ⟨#[]⟩,.slice none 0 0,.int .i64 0,.int .i64 0,.int .i64 0,.slice none 0 0]
theorem aF {fn:Func} {R:Ending→World→Prop} {p:Tmp} (h:fn.results=#[.cell p 43]) (tmps:Array Value) (w:World) (g:Nat) (T:TypeId) (cells:Array Value) (hp:tmps.getD p undef=.pointer (some ⟨g,0,none⟩))
  (hB:Blk w g T cells) (hc:cells.size=12) (hR:R (.returned (.agg cells)) w):bodyPost Tryz.prog fn R .ret ⟨tmps,[]⟩ w :=
 bodyPost_ret (results_cell_row h tmps w g T cells (0,0) _ hp hB Tryz.underlying43 rfl (by rw [hc];exact aK)) rfl hR
structure Fr (w0 w:World) (B:Nat) (i:Bool) (res:Array Value):Prop where
 mv:Mv w0.heap.size B w0 w
 sc:Blk w w0.heap.size 99 #[.pointer (some ⟨B,0,none⟩),.bool i]
 rz:Blk w (w0.heap.size+1) 43 res
 hB:B<w0.heap.size
theorem Fr.start {w:World} {B:Nat} (i:Bool) (h:B<w.heap.size):Fr w ((w.alloc (.cells #[.pointer (some ⟨B,0,none⟩),.bool i] 99)).alloc (.cells zE 43)) B i zE :=
 ⟨((Mv.refl _ _ _).alloc lr _).alloc lr _,(Blk.new _ _ _).past _,by have:=Blk.new (w.alloc (.cells #[.pointer (some ⟨B,0,none⟩),.bool i] 99)) 43 zE;simpa using this,h⟩
theorem Fr.lt {w0 w:World} {B:Nat} {i:Bool} {res:Array Value} (h:Fr w0 w B i res):w0.heap.size+2≤w.heap.size:=h.rz.lt
theorem Fr.next {w0 w w':World} {B:Nat} {i:Bool} {res:Array Value} (h:Fr w0 w B i res) (M:Mv w.heap.size B w w'):Fr w0 w' B i res:=by
 have:=h.lt;have:=h.hB;exact ⟨h.mv.up M (by omega),h.sc.mv M (by omega) (by omega),h.rz.mv M (by omega) (by omega),h.hB⟩
theorem Fr.bG {w0 w w':World} {B:Nat} {i:Bool} {res:Array Value} (h:Fr w0 w B i res) (M:Below w.heap.size w w'):Fr w0 w' B i res:=h.next (.of M)
theorem Fr.alloc {w0 w:World} {B:Nat} {i:Bool} {res:Array Value} (h:Fr w0 w B i res) (o:Obj):Fr w0 (w.alloc o) B i res:=h.next (.of (aj (b0 w) o))
theorem Fr.st {w0 w w':World} {B:Nat} {i:Bool} {res:Array Value} {g:Nat} (h:Fr w0 w B i res) (M:St g w w') (hg:w0.heap.size+2≤g):Fr w0 w' B i res :=
 ⟨h.mv.trans (M.mv (by omega)),h.sc.st M (by omega),h.rz.st M (by omega),h.hB⟩
theorem Fr.set {w0 w w':World} {B:Nat} {i:Bool} {res cells:Array Value} (h:Fr w0 w B i res) (M:St (w0.heap.size+1) w w') (hb:Blk w' (w0.heap.size+1) 43 cells):Fr w0 w' B i cells :=
 ⟨h.mv.trans (M.mv (by omega)),h.sc.st M (by omega),hb,h.hB⟩
theorem Fr.c0 {w0 w:World} {B:Nat} {i:Bool} {res:Array Value} (h:Fr w0 w B i res):w.cell? ⟨w0.heap.size,0,none⟩=some (.pointer (some ⟨B,0,none⟩)):=h.sc.cell 0
theorem Fr.c1 {w0 w:World} {B:Nat} {i:Bool} {res:Array Value} (h:Fr w0 w B i res):w.cell? ⟨w0.heap.size,1,none⟩=some (.bool i):=h.sc.cell 1
end
section
open Go.RowKit
section
variable {P:Program} {Q:Exit→Act→World→Prop} {md:Region.Mode} {S:World→Prop}
theorem FD {l:List Oper} {i d:Nat} {oi:Oper} {v:Value} {fuel:Nat} {listed:Array Bool} {t:List Value} {ds:List Deferred} {w:World} (hi:l[i]? = some oi)
    (hs:Region.noSelect l.toArray=true) (hf:Region.free md l.toArray listed i=true) (hr:(Region.ready md l.toArray listed).contains i=true) (hd:oi.dst=some d)
    (hQ:∀ c a w,Q (.panic c) (a.put (some d) v) w→Q (.panic c) a w) (hw:Region.wanted oi (yielded l.toArray t.toArray)=true) (hS:S w)
    (hy:∀ w,S w→(execOp (Act.mk t.toArray ds).eval oi).run P w=.ok (.value v) w)
    (h:wpAnyH P md l.toArray Q S fuel (listed.setIfInBounds i true) ⟨(t.set d v).toArray,ds⟩ w):wpAnyH P md l.toArray Q S (fuel+1) listed ⟨t.toArray,ds⟩ w:=by
 refine wpAnyH_take (i:=i) (oi:=oi) (v:=v) (by simpa using hi) hs hf hr (by rw [hd];exact hQ) (.inl ⟨hw,hy⟩) hS ?_;rw [hd];simpa [Act.put] using h
theorem aB {l:List Oper} (i d:Nat) (v:Value) {oi:Oper} {fuel:Nat} {listed:Array Bool} {t:List Value} {ds:List Deferred} {w:World} (hi:l[i]? = some oi)
 (hb:(Region.noSelect l.toArray && Region.free md l.toArray listed i && (Region.ready md l.toArray listed).contains i)=true) (hd:oi.dst=some d)
 (hQ:∀ c a w,Q (.panic c) (a.put (some d) v) w→Q (.panic c) a w) (hw:Region.wanted oi (yielded l.toArray t.toArray)=true) (hS:S w)
 (hy:∀ w,S w→(execOp (Act.mk t.toArray ds).eval oi).run P w=.ok (.value v) w)
 (h:wpAnyH P md l.toArray Q S fuel (listed.setIfInBounds i true) ⟨(t.set d v).toArray,ds⟩ w):wpAnyH P md l.toArray Q S (fuel+1) listed ⟨t.toArray,ds⟩ w:=by
 rw [Bool.and_eq_true,Bool.and_eq_true] at hb
 exact FD hi hb.1.1 hb.1.2 hb.2 hd hQ hw hS hy h
theorem ak {l:List Oper} {i:Nat} {oi:Oper} {fuel:Nat} {listed:Array Bool} {a:Act} {w:World} (hi:l[i]? = some oi)
    (hr:Region.ready md l.toArray listed=[i]) (hw:Region.wanted oi (yielded l.toArray a.tmps)=true)
    (h:∀ K':Act→World→Prop,Shut (∀ a w,S w→(S w→wpAnyH P md l.toArray Q S fuel (listed.setIfInBounds i true) a w)→K' a w)→Oper.wp P oi a w K' Q):wpAnyH P md l.toArray Q S (fuel+1) listed a w:=by
 refine wpAnyH_ready hr (by simp) (AllReadyH.cons (o:=oi) (by simpa using hi) (fun K hK=>?_) AllReadyH.nil);rw [if_pos hw];exact h K hK
theorem bI {l:List Oper} {i j:Nat} {oi oj:Oper} {fuel:Nat} {listed:Array Bool} {a:Act} {w:World} (hi:l[i]? = some oi) (hj:l[j]? = some oj)
    (hr:Region.ready md l.toArray listed=[i,j]) (hw:Region.wanted oi (yielded l.toArray a.tmps)=true) (hw':Region.wanted oj (yielded l.toArray a.tmps)=true)
    (h:∀ K':Act→World→Prop,Shut (∀ a w,S w→(S w→wpAnyH P md l.toArray Q S fuel (listed.setIfInBounds i true) a w)→K' a w)→Oper.wp P oi a w K' Q)
    (h':∀ K':Act→World→Prop,Shut (∀ a w,S w→(S w→wpAnyH P md l.toArray Q S fuel (listed.setIfInBounds j true) a w)→K' a w)→Oper.wp P oj a w K' Q):wpAnyH P md l.toArray Q S (fuel+1) listed a w:=by
 refine wpAnyH_ready hr (by simp) (AllReadyH.cons (o:=oi) (by simpa using hi) (fun K hK=>?_) (AllReadyH.cons (o:=oj) (by simpa using hj) (fun K hK=>?_) AllReadyH.nil))
 ·rw [if_pos hw];exact h K hK
 rw [if_pos hw'];exact h' K hK
theorem j4 {Q:Exit→Act→World→Prop} {a:Act} {w:World} (h:Q .normal a w):NoPanic Q .normal a w:=h
end
end
namespace pa
open Go.RowKit dec
theorem yN (B:Nat) (l:List Tk) (w:World) (h:Ps w B l) (r:Rs un.Fa) (hr:fac l=r) (hne:r≠.out) :
    Calls Tryz.prog 150 #[.pointer (some ⟨B,0,none⟩)] w (Pst B Fv r w):=by
 have b1:=aj (b0 w) (.cells #[.string ⟨#[]⟩,.int .i64 0] 55);have hlt:=Hy h.lt;have P:=Hy (h.keeps b1);have M:=Hy (Mv.of (B:=B) b1);have R:=Hy (Blk.new w 55 #[.string ⟨#[]⟩,.int .i64 0]);have NE:=Hy hne;unfold fac at hr;have HR:=Hy hr;clear h hne hr b1
 go_enter Tryz.func150,Tryz.ntmps150
 go_wp2_with fail;refine (kU B l _ P.o _ rfl (dS _)).mono ?_;rintro e w1 h1;rcases hG1:nam l with _ | ⟨v1,l1⟩ | ⟨a1,c1,l1⟩
 ·exact absurd hG1 (dS _)
 rotate_left
 ·rw [hG1] at h1;obtain ⟨rfl,pp,mm⟩:=h1;unfold thr;have hno:=bno HR hG1;have PP:=Hy pp;have MM:=Hy (M.o.next mm);clear pp mm hG1;go_wp2_with fail;exact ⟨rfl,aI hno.o PP.o MM.o⟩
 rw [hG1] at h1;obtain ⟨u1,rfl,vv,pp,mm⟩:=h1;replace HR:=HR.o;rw [hG1] at HR;simp only [aC] at HR;replace HR:=Hy HR;replace R:=Hy (R.o.mv mm (by have:=hlt.o;omega) (by simp));have L:=Hy (Blk.new w1 55 #[.string v1,.int .i64 1]);replace R:=Hy (R.o.past (.cells #[.string v1,.int .i64 1] 55));have b2:=aj (b0 w1) (.cells #[.string v1,.int .i64 1] 55);replace P:=Hy (pp.keeps b2);have hw1:=Hy mm.size;replace M:=Hy ((M.o.next mm).bG b2);clear pp mm hG1 b2;obtain rfl:u1=.string v1:=vv;go_wp2_with fail;have hgw:=Hy (show w.heap.size<w1.heap.size from by have:=hw1.o;simp at this;omega);clear hw1;generalize w1.alloc (.cells #[.string v1,.int .i64 1] 55)=W at *;generalize w1.heap.size=g at *;cases ht:isT ⟨#[94]⟩ l1
 ·replace HR:=Hy (show Rs.ok (v1,1) l1=r by rw [← HR.o,ht];rfl);have HT:=Hy ht;clear ht;refine (aN B ⟨#[94]⟩ l1 _ P.o HT.o).mono ?_;rintro e w2 ⟨rfl,pp,mm⟩;replace R:=Hy (R.o.mv mm (by have:=hlt.o;omega) (R.o.lt));replace L:=Hy (L.o.mv mm (by have:=hlt.o;have:=hgw.o;omega) (L.o.lt));replace P:=Hy pp;replace M:=Hy (M.o.next mm);clear pp mm HT;go_wp2_with (first | (refine aH cK Tryz.underlying55 rfl (.tmp 3) rfl rfl _ _ _ rfl L.o rfl ?_) | (refine aA cK (.tmp 2) (.tmp 19) rfl rfl _ _ _ _ rfl rfl R.o rfl rfl (by simp [Value.oneCell']) ?_;intro w9 hb9 hs9));replace P:=Hy (P.o.st hs9 hlt.o);replace M:=Hy (M.o.trans (hs9.mv lr));refine bO cK Tryz.underlying55 rfl rfl _ _ _ _ _ rfl hb9 rfl ?_;exact aQ HR.o.symm rfl P.o M.o
 cases ht2:isT ⟨#[45]⟩ l1.tail
 ·replace HR:=Hy (show ((int l1.tail).bind fun x r=>Rs.ok (v1,IntKind.i64.wrap (1 * min x 1099511627776)) r)=r by rw [← HR.o,ht,ht2];rfl);have HT:=Hy ht;have HT2:=Hy ht2;clear ht ht2;refine (aX B ⟨#[94]⟩ l1 _ P.o HT.o).mono ?_;rintro e w2 ⟨rfl,pp,mm⟩;replace R:=Hy (R.o.mv mm (by have:=hlt.o;omega) (R.o.lt));replace L:=Hy (L.o.mv mm (by have:=hlt.o;have:=hgw.o;omega) (L.o.lt));replace P:=Hy pp;replace M:=Hy (M.o.next mm);clear pp mm HT;go_wp2_with fail;refine (aN B ⟨#[45]⟩ l1.tail _ P.o HT2.o).mono ?_;rintro e w3 ⟨rfl,pp,mm⟩;replace R:=Hy (R.o.mv mm (by have:=hlt.o;omega) (R.o.lt));replace L:=Hy (L.o.mv mm (by have:=hlt.o;have:=hgw.o;omega) (L.o.lt));replace P:=Hy pp;replace M:=Hy (M.o.next mm);clear pp mm HT2;go_wp2_with fail;refine wp_region_held_drew (S:=fun _=>True) (by kernel_rfl) trivial (fun hH=>?_);have P':=Hy (P.o.keeps (b0 _).drew);have M':=Hy (M.o.bG (b0 w3).drew);have L':=Hy (show Blk w3.drew g 55 #[.string v1,.int .i64 (1)] from L.o);have R':=Hy (show Blk w3.drew w.heap.size 55 #[.string ⟨#[]⟩,.int .i64 0] from R.o);refine aB 0 12 ?_ rfl (by kernel_rfl) rfl (fun _ _ _ h=>h) rfl hH (fun w' hS=>?_) ?_;rotate_left
  ·go_simp;try with_reducible rfl
  simp only [sz0,sz1];refine aB 2 14 ?_ rfl (by kernel_rfl) rfl (fun _ _ _ h=>h) rfl hH (fun w' hS=>?_) ?_;rotate_left
  ·go_simp;try with_reducible rfl
  simp only [sz0,sz1];refine bI (i:=1) (j:=3) rfl rfl (by kernel_rfl) rfl rfl (fun K hK=>?_) (fun K hK=>?_)
  ·have e1:=L'.o.cell 1;go_simp;refine hK.o _ _ trivial (fun hH=>?_);clear hK K;clear e1;refine ak (i:=3) rfl (by kernel_rfl) rfl (fun K hK=>?_);go_simp;refine (dQ B l1.tail _ P'.o _ rfl (int_ne _)).mono ?_;rintro e w4 h4;rcases hG4:int l1.tail with _ | ⟨v4,l4⟩ | ⟨a4,c4,l4⟩
   ·exact absurd hG4 (int_ne _)
   rotate_left
   ·rw [hG4] at h4;obtain ⟨rfl,pp,mm⟩:=h4;unfold thr;exact ⟨rfl,aI (by rw [← HR.o,hG4];rfl) pp (M'.o.next mm)⟩
   rw [hG4] at h4;obtain ⟨u4,rfl,vv,pp,mm⟩:=h4;obtain rfl:u4=.int .i64 v4:=vv;replace HR:=Hy (show Rs.ok (v1,IntKind.i64.wrap (1 * min v4 1099511627776)) l4=r by rw [← HR.o,hG4];rfl);replace L:=Hy (L'.o.mv mm (by have:=hlt.o;have:=hgw.o;omega) L'.o.lt);replace R:=Hy (R'.o.mv mm (by have:=hlt.o;omega) R'.o.lt);replace P:=Hy pp;replace M:=Hy (M'.o.next mm);clear P' pp mm hG4;refine hK.o _ _ trivial (fun hH=>?_);clear hK K;refine ak (i:=4) rfl (by kernel_rfl) rfl (fun K hK=>?_);go_simp;generalize hm:min v4 1099511627776=m at *;replace hm:=Hy hm;refine hK.o _ _ trivial (fun hH=>?_);clear hK K;refine ak (i:=5) rfl (by kernel_rfl) rfl (fun K hK=>?_);go_simp;refine hK.o _ _ trivial (fun hH=>?_);clear hK K;refine ak (i:=6) rfl (by kernel_rfl) rfl (fun K hK=>?_);go_simp;refine hK.o _ _ trivial (fun hH=>?_);clear hK K;refine ak (i:=7) rfl (by kernel_rfl) rfl (fun K hK=>?_);have e1:=L.o.cell 1;have z1:=L.o.free 1;go_simp;have L2:=L.o.setCell 1 (.int .i64 (IntKind.i64.wrap m));have L3:=Hy (show Blk _ g 55 #[.string v1,.int .i64 (IntKind.i64.wrap m)] from L2.1);replace P:=Hy (P.o.st L2.2 (by have:=hlt.o;have:=hgw.o;omega));replace R:=Hy (R.o.st L2.2 (by have:=hgw.o;omega));replace M:=Hy (M.o.trans (L2.2.mv (by have:=hgw.o;omega)));replace L:=L3;replace HR:=Hy (show Rs.ok (v1,(IntKind.i64.wrap m)) l4=r from by rw [← HR.o];congr 2;simp);clear L2 L3 e1 z1;refine hK.o _ _ trivial (fun hH=>?_);clear hK K;refine wpAnyH_done (by kernel_rfl) ?_ _;go_wp2_with (first | (refine aH cK Tryz.underlying55 rfl (.tmp 3) rfl rfl _ _ _ rfl L.o rfl ?_) | (refine aA cK (.tmp 2) (.tmp 19) rfl rfl _ _ _ _ rfl rfl R.o rfl rfl (by simp [Value.oneCell']) ?_;intro w9 hb9 hs9));replace P:=Hy (P.o.st hs9 hlt.o);replace M:=Hy (M.o.trans (hs9.mv lr));refine bO cK Tryz.underlying55 rfl rfl _ _ _ _ _ rfl hb9 rfl ?_;exact aQ HR.o.symm rfl P.o M.o
  go_simp;refine (dQ B l1.tail _ P'.o _ rfl (int_ne _)).mono ?_;rintro e w4 h4;rcases hG4:int l1.tail with _ | ⟨v4,l4⟩ | ⟨a4,c4,l4⟩
  ·exact absurd hG4 (int_ne _)
  rotate_left
  ·rw [hG4] at h4;obtain ⟨rfl,pp,mm⟩:=h4;unfold thr;exact ⟨rfl,aI (by rw [← HR.o,hG4];rfl) pp (M'.o.next mm)⟩
  rw [hG4] at h4;obtain ⟨u4,rfl,vv,pp,mm⟩:=h4;obtain rfl:u4=.int .i64 v4:=vv;replace HR:=Hy (show Rs.ok (v1,IntKind.i64.wrap (1 * min v4 1099511627776)) l4=r by rw [← HR.o,hG4];rfl);replace L:=Hy (L'.o.mv mm (by have:=hlt.o;have:=hgw.o;omega) L'.o.lt);replace R:=Hy (R'.o.mv mm (by have:=hlt.o;omega) R'.o.lt);replace P:=Hy pp;replace M:=Hy (M'.o.next mm);clear P' pp mm hG4;refine hK.o _ _ trivial (fun hH=>?_);clear hK K;refine bI (i:=1) (j:=4) rfl rfl (by kernel_rfl) rfl rfl (fun K hK=>?_) (fun K hK=>?_)
  ·have e1:=L.o.cell 1;go_simp;refine hK.o _ _ trivial (fun hH=>?_);clear hK K;clear e1;refine ak (i:=4) rfl (by kernel_rfl) rfl (fun K hK=>?_);go_simp;generalize hm:min v4 1099511627776=m at *;replace hm:=Hy hm;refine hK.o _ _ trivial (fun hH=>?_);clear hK K;refine ak (i:=5) rfl (by kernel_rfl) rfl (fun K hK=>?_);go_simp;refine hK.o _ _ trivial (fun hH=>?_);clear hK K;refine ak (i:=6) rfl (by kernel_rfl) rfl (fun K hK=>?_);go_simp;refine hK.o _ _ trivial (fun hH=>?_);clear hK K;refine ak (i:=7) rfl (by kernel_rfl) rfl (fun K hK=>?_);have e1:=L.o.cell 1;have z1:=L.o.free 1;go_simp;have L2:=L.o.setCell 1 (.int .i64 (IntKind.i64.wrap m));have L3:=Hy (show Blk _ g 55 #[.string v1,.int .i64 (IntKind.i64.wrap m)] from L2.1);replace P:=Hy (P.o.st L2.2 (by have:=hlt.o;have:=hgw.o;omega));replace R:=Hy (R.o.st L2.2 (by have:=hgw.o;omega));replace M:=Hy (M.o.trans (L2.2.mv (by have:=hgw.o;omega)));replace L:=L3;replace HR:=Hy (show Rs.ok (v1,(IntKind.i64.wrap m)) l4=r from by rw [← HR.o];congr 2;simp);clear L2 L3 e1 z1;refine hK.o _ _ trivial (fun hH=>?_);clear hK K;refine wpAnyH_done (by kernel_rfl) ?_ _;go_wp2_with (first | (refine aH cK Tryz.underlying55 rfl (.tmp 3) rfl rfl _ _ _ rfl L.o rfl ?_) | (refine aA cK (.tmp 2) (.tmp 19) rfl rfl _ _ _ _ rfl rfl R.o rfl rfl (by simp [Value.oneCell']) ?_;intro w9 hb9 hs9));replace P:=Hy (P.o.st hs9 hlt.o);replace M:=Hy (M.o.trans (hs9.mv lr));refine bO cK Tryz.underlying55 rfl rfl _ _ _ _ _ rfl hb9 rfl ?_;exact aQ HR.o.symm rfl P.o M.o
  go_simp;generalize hm:min v4 1099511627776=m at *;replace hm:=Hy hm;refine hK.o _ _ trivial (fun hH=>?_);clear hK K;refine ak (i:=1) rfl (by kernel_rfl) rfl (fun K hK=>?_);have e1:=L.o.cell 1;go_simp;refine hK.o _ _ trivial (fun hH=>?_);clear hK K;clear e1;refine ak (i:=5) rfl (by kernel_rfl) rfl (fun K hK=>?_);go_simp;refine hK.o _ _ trivial (fun hH=>?_);clear hK K;refine ak (i:=6) rfl (by kernel_rfl) rfl (fun K hK=>?_);go_simp;refine hK.o _ _ trivial (fun hH=>?_);clear hK K;refine ak (i:=7) rfl (by kernel_rfl) rfl (fun K hK=>?_);have e1:=L.o.cell 1;have z1:=L.o.free 1;go_simp;have L2:=L.o.setCell 1 (.int .i64 (IntKind.i64.wrap m));have L3:=Hy (show Blk _ g 55 #[.string v1,.int .i64 (IntKind.i64.wrap m)] from L2.1);replace P:=Hy (P.o.st L2.2 (by have:=hlt.o;have:=hgw.o;omega));replace R:=Hy (R.o.st L2.2 (by have:=hgw.o;omega));replace M:=Hy (M.o.trans (L2.2.mv (by have:=hgw.o;omega)));replace L:=L3;replace HR:=Hy (show Rs.ok (v1,(IntKind.i64.wrap m)) l4=r from by rw [← HR.o];congr 2;simp);clear L2 L3 e1 z1;refine hK.o _ _ trivial (fun hH=>?_);clear hK K;refine wpAnyH_done (by kernel_rfl) ?_ _;go_wp2_with (first | (refine aH cK Tryz.underlying55 rfl (.tmp 3) rfl rfl _ _ _ rfl L.o rfl ?_) | (refine aA cK (.tmp 2) (.tmp 19) rfl rfl _ _ _ _ rfl rfl R.o rfl rfl (by simp [Value.oneCell']) ?_;intro w9 hb9 hs9));replace P:=Hy (P.o.st hs9 hlt.o);replace M:=Hy (M.o.trans (hs9.mv lr));refine bO cK Tryz.underlying55 rfl rfl _ _ _ _ _ rfl hb9 rfl ?_;exact aQ HR.o.symm rfl P.o M.o
 replace HR:=Hy (show ((int l1.tail.tail).bind fun x r=>Rs.ok (v1,IntKind.i64.wrap (-1 * min x 1099511627776)) r)=r by rw [← HR.o,ht,ht2];rfl);have HT:=Hy ht;have HT2:=Hy ht2;clear ht ht2;refine (aX B ⟨#[94]⟩ l1 _ P.o HT.o).mono ?_;rintro e w2 ⟨rfl,pp,mm⟩;replace R:=Hy (R.o.mv mm (by have:=hlt.o;omega) (R.o.lt));replace L:=Hy (L.o.mv mm (by have:=hlt.o;have:=hgw.o;omega) (L.o.lt));replace P:=Hy pp;replace M:=Hy (M.o.next mm);clear pp mm HT;go_wp2_with fail;refine (aX B ⟨#[45]⟩ l1.tail _ P.o HT2.o).mono ?_;rintro e w3 ⟨rfl,pp,mm⟩;replace R:=Hy (R.o.mv mm (by have:=hlt.o;omega) (R.o.lt));replace L:=Hy (L.o.mv mm (by have:=hlt.o;have:=hgw.o;omega) (L.o.lt));replace P:=Hy pp;replace M:=Hy (M.o.next mm);clear pp mm HT2;have e1:=L.o.cell 1;have z1:=L.o.free 1;have L2:=L.o.setCell 1 (.int .i64 (-1));have L3:=Hy (show Blk _ g 55 #[.string v1,.int .i64 (-1)] from L2.1);replace P:=Hy (P.o.st L2.2 (by have:=hlt.o;have:=hgw.o;omega));replace R:=Hy (R.o.st L2.2 (by have:=hgw.o;omega));replace M:=Hy (M.o.trans (L2.2.mv (by have:=hgw.o;omega)));replace L:=L3;clear L2 L3;go_wp2_with fail;clear e1 z1;generalize w3.setCell ⟨g,1,none⟩ (.int .i64 (-1))=w5 at *;refine wp_region_held_drew (S:=fun _=>True) (by kernel_rfl) trivial (fun hH=>?_);have P':=Hy (P.o.keeps (b0 _).drew);have M':=Hy (M.o.bG (b0 w5).drew);have L':=Hy (show Blk w5.drew g 55 #[.string v1,.int .i64 (-1)] from L.o);have R':=Hy (show Blk w5.drew w.heap.size 55 #[.string ⟨#[]⟩,.int .i64 0] from R.o);refine aB 0 12 ?_ rfl (by kernel_rfl) rfl (fun _ _ _ h=>h) rfl hH (fun w' hS=>?_) ?_;rotate_left
 ·go_simp;try with_reducible rfl
 simp only [sz0,sz1];refine aB 2 14 ?_ rfl (by kernel_rfl) rfl (fun _ _ _ h=>h) rfl hH (fun w' hS=>?_) ?_;rotate_left
 ·go_simp;try with_reducible rfl
 simp only [sz0,sz1];refine bI (i:=1) (j:=3) rfl rfl (by kernel_rfl) rfl rfl (fun K hK=>?_) (fun K hK=>?_)
 ·have e1:=L'.o.cell 1;go_simp;refine hK.o _ _ trivial (fun hH=>?_);clear hK K;clear e1;refine ak (i:=3) rfl (by kernel_rfl) rfl (fun K hK=>?_);go_simp;refine (dQ B l1.tail.tail _ P'.o _ rfl (int_ne _)).mono ?_;rintro e w4 h4;rcases hG4:int l1.tail.tail with _ | ⟨v4,l4⟩ | ⟨a4,c4,l4⟩
  ·exact absurd hG4 (int_ne _)
  rotate_left
  ·rw [hG4] at h4;obtain ⟨rfl,pp,mm⟩:=h4;unfold thr;exact ⟨rfl,aI (by rw [← HR.o,hG4];rfl) pp (M'.o.next mm)⟩
  rw [hG4] at h4;obtain ⟨u4,rfl,vv,pp,mm⟩:=h4;obtain rfl:u4=.int .i64 v4:=vv;replace HR:=Hy (show Rs.ok (v1,IntKind.i64.wrap (-1 * min v4 1099511627776)) l4=r by rw [← HR.o,hG4];rfl);replace L:=Hy (L'.o.mv mm (by have:=hlt.o;have:=hgw.o;omega) L'.o.lt);replace R:=Hy (R'.o.mv mm (by have:=hlt.o;omega) R'.o.lt);replace P:=Hy pp;replace M:=Hy (M'.o.next mm);clear P' pp mm hG4;refine hK.o _ _ trivial (fun hH=>?_);clear hK K;refine ak (i:=4) rfl (by kernel_rfl) rfl (fun K hK=>?_);go_simp;generalize hm:min v4 1099511627776=m at *;replace hm:=Hy hm;refine hK.o _ _ trivial (fun hH=>?_);clear hK K;refine ak (i:=5) rfl (by kernel_rfl) rfl (fun K hK=>?_);go_simp;refine hK.o _ _ trivial (fun hH=>?_);clear hK K;refine ak (i:=6) rfl (by kernel_rfl) rfl (fun K hK=>?_);go_simp;refine hK.o _ _ trivial (fun hH=>?_);clear hK K;refine ak (i:=7) rfl (by kernel_rfl) rfl (fun K hK=>?_);have e1:=L.o.cell 1;have z1:=L.o.free 1;go_simp;have L2:=L.o.setCell 1 (.int .i64 (IntKind.i64.wrap (-m)));have L3:=Hy (show Blk _ g 55 #[.string v1,.int .i64 (IntKind.i64.wrap (-m))] from L2.1);replace P:=Hy (P.o.st L2.2 (by have:=hlt.o;have:=hgw.o;omega));replace R:=Hy (R.o.st L2.2 (by have:=hgw.o;omega));replace M:=Hy (M.o.trans (L2.2.mv (by have:=hgw.o;omega)));replace L:=L3;replace HR:=Hy (show Rs.ok (v1,(IntKind.i64.wrap (-m))) l4=r from by rw [← HR.o];congr 2;simp);clear L2 L3 e1 z1;refine hK.o _ _ trivial (fun hH=>?_);clear hK K;refine wpAnyH_done (by kernel_rfl) ?_ _;go_wp2_with (first | (refine aH cK Tryz.underlying55 rfl (.tmp 3) rfl rfl _ _ _ rfl L.o rfl ?_) | (refine aA cK (.tmp 2) (.tmp 19) rfl rfl _ _ _ _ rfl rfl R.o rfl rfl (by simp [Value.oneCell']) ?_;intro w9 hb9 hs9));replace P:=Hy (P.o.st hs9 hlt.o);replace M:=Hy (M.o.trans (hs9.mv lr));refine bO cK Tryz.underlying55 rfl rfl _ _ _ _ _ rfl hb9 rfl ?_;exact aQ HR.o.symm rfl P.o M.o
 go_simp;refine (dQ B l1.tail.tail _ P'.o _ rfl (int_ne _)).mono ?_;rintro e w4 h4;rcases hG4:int l1.tail.tail with _ | ⟨v4,l4⟩ | ⟨a4,c4,l4⟩
 ·exact absurd hG4 (int_ne _)
 rotate_left
 ·rw [hG4] at h4;obtain ⟨rfl,pp,mm⟩:=h4;unfold thr;exact ⟨rfl,aI (by rw [← HR.o,hG4];rfl) pp (M'.o.next mm)⟩
 rw [hG4] at h4;obtain ⟨u4,rfl,vv,pp,mm⟩:=h4;obtain rfl:u4=.int .i64 v4:=vv;replace HR:=Hy (show Rs.ok (v1,IntKind.i64.wrap (-1 * min v4 1099511627776)) l4=r by rw [← HR.o,hG4];rfl);replace L:=Hy (L'.o.mv mm (by have:=hlt.o;have:=hgw.o;omega) L'.o.lt);replace R:=Hy (R'.o.mv mm (by have:=hlt.o;omega) R'.o.lt);replace P:=Hy pp;replace M:=Hy (M'.o.next mm);clear P' pp mm hG4;refine hK.o _ _ trivial (fun hH=>?_);clear hK K;refine bI (i:=1) (j:=4) rfl rfl (by kernel_rfl) rfl rfl (fun K hK=>?_) (fun K hK=>?_)
 ·have e1:=L.o.cell 1;go_simp;refine hK.o _ _ trivial (fun hH=>?_);clear hK K;clear e1;refine ak (i:=4) rfl (by kernel_rfl) rfl (fun K hK=>?_);go_simp;generalize hm:min v4 1099511627776=m at *;replace hm:=Hy hm;refine hK.o _ _ trivial (fun hH=>?_);clear hK K;refine ak (i:=5) rfl (by kernel_rfl) rfl (fun K hK=>?_);go_simp;refine hK.o _ _ trivial (fun hH=>?_);clear hK K;refine ak (i:=6) rfl (by kernel_rfl) rfl (fun K hK=>?_);go_simp;refine hK.o _ _ trivial (fun hH=>?_);clear hK K;refine ak (i:=7) rfl (by kernel_rfl) rfl (fun K hK=>?_);have e1:=L.o.cell 1;have z1:=L.o.free 1;go_simp;have L2:=L.o.setCell 1 (.int .i64 (IntKind.i64.wrap (-m)));have L3:=Hy (show Blk _ g 55 #[.string v1,.int .i64 (IntKind.i64.wrap (-m))] from L2.1);replace P:=Hy (P.o.st L2.2 (by have:=hlt.o;have:=hgw.o;omega));replace R:=Hy (R.o.st L2.2 (by have:=hgw.o;omega));replace M:=Hy (M.o.trans (L2.2.mv (by have:=hgw.o;omega)));replace L:=L3;replace HR:=Hy (show Rs.ok (v1,(IntKind.i64.wrap (-m))) l4=r from by rw [← HR.o];congr 2;simp);clear L2 L3 e1 z1;refine hK.o _ _ trivial (fun hH=>?_);clear hK K;refine wpAnyH_done (by kernel_rfl) ?_ _;go_wp2_with (first | (refine aH cK Tryz.underlying55 rfl (.tmp 3) rfl rfl _ _ _ rfl L.o rfl ?_) | (refine aA cK (.tmp 2) (.tmp 19) rfl rfl _ _ _ _ rfl rfl R.o rfl rfl (by simp [Value.oneCell']) ?_;intro w9 hb9 hs9));replace P:=Hy (P.o.st hs9 hlt.o);replace M:=Hy (M.o.trans (hs9.mv lr));refine bO cK Tryz.underlying55 rfl rfl _ _ _ _ _ rfl hb9 rfl ?_;exact aQ HR.o.symm rfl P.o M.o
 go_simp;generalize hm:min v4 1099511627776=m at *;replace hm:=Hy hm;refine hK.o _ _ trivial (fun hH=>?_);clear hK K;refine ak (i:=1) rfl (by kernel_rfl) rfl (fun K hK=>?_);have e1:=L.o.cell 1;go_simp;refine hK.o _ _ trivial (fun hH=>?_);clear hK K;clear e1;refine ak (i:=5) rfl (by kernel_rfl) rfl (fun K hK=>?_);go_simp;refine hK.o _ _ trivial (fun hH=>?_);clear hK K;refine ak (i:=6) rfl (by kernel_rfl) rfl (fun K hK=>?_);go_simp;refine hK.o _ _ trivial (fun hH=>?_);clear hK K;refine ak (i:=7) rfl (by kernel_rfl) rfl (fun K hK=>?_);have e1:=L.o.cell 1;have z1:=L.o.free 1;go_simp;have L2:=L.o.setCell 1 (.int .i64 (IntKind.i64.wrap (-m)));have L3:=Hy (show Blk _ g 55 #[.string v1,.int .i64 (IntKind.i64.wrap (-m))] from L2.1);replace P:=Hy (P.o.st L2.2 (by have:=hlt.o;have:=hgw.o;omega));replace R:=Hy (R.o.st L2.2 (by have:=hgw.o;omega));replace M:=Hy (M.o.trans (L2.2.mv (by have:=hgw.o;omega)));replace L:=L3;replace HR:=Hy (show Rs.ok (v1,(IntKind.i64.wrap (-m))) l4=r from by rw [← HR.o];congr 2;simp);clear L2 L3 e1 z1;refine hK.o _ _ trivial (fun hH=>?_);clear hK K;refine wpAnyH_done (by kernel_rfl) ?_ _;go_wp2_with (first | (refine aH cK Tryz.underlying55 rfl (.tmp 3) rfl rfl _ _ _ rfl L.o rfl ?_) | (refine aA cK (.tmp 2) (.tmp 19) rfl rfl _ _ _ _ rfl rfl R.o rfl rfl (by simp [Value.oneCell']) ?_;intro w9 hb9 hs9));replace P:=Hy (P.o.st hs9 hlt.o);replace M:=Hy (M.o.trans (hs9.mv lr));refine bO cK Tryz.underlying55 rfl rfl _ _ _ _ _ rfl hb9 rfl ?_;exact aQ HR.o.symm rfl P.o M.o
theorem xY {S B base:Nat} {w w':World} {v:Value} {l:List un.Fa} (h:un.Own w base v l) (M:Mv S B w w') (hB:B<base) (hS:w.heap.size≤S):un.Own w' base v l:=by
 obtain ⟨h1,h2⟩:=h;refine ⟨h1,?_⟩;rcases h2 with h0 | ⟨g,cap,cur,e,hbg,hh,r⟩
 ·exact .inl h0
 refine .inr ⟨g,cap,cur,e,hbg,?_,r⟩;have:g<w.heap.size:=by
  rcases Nat.lt_or_ge g w.heap.size with h' | h'
  ·exact h'
  rw [Array.getElem?_eq_none h'] at hh;cases hh
 rw [M.block _ (by omega) (by omega)];exact hh
theorem Ib (B:Nat) (s:ByteArray) (l:List Tk) (w:World) (h:Ps w B l) (r:Rs (List un.Fa)) (hr:lst fac s l=r) (hne:r≠.out) :
    Calls Tryz.prog 149 #[.pointer (some ⟨B,0,none⟩),.string s,.func (.func 150) #[.pointer (some ⟨B,0,none⟩)] #[]] w (Pst B (fun C w v l=>un.Own w C v l) r w):=by
 have P:=Hy h;have hlt:=Hy h.lt;have HL:=Hy h.tl.ln;have M:=Hy (Mv.refl w.heap.size B w);have NE:=Hy hne;unfold lst at hr;have HR:=Hy hr;clear h hne hr
 go_enter Tryz.func149,Tryz.ntmps149
 go_wp2_with fail;refine (yN B l _ P.o _ rfl (ig _)).mono ?_;rintro e w1 h1;rcases hG1:fac l with _ | ⟨v1,l1⟩ | ⟨a1,c1,l1⟩
 ·exact absurd hG1 (ig _)
 rotate_left
 ·rw [hG1] at h1;obtain ⟨rfl,pp,mm⟩:=h1;unfold thr;have hno:=bno HR hG1;have PP:=Hy pp;have MM:=Hy (M.o.next mm);clear pp mm hG1;go_wp2_with fail;exact ⟨rfl,aI hno.o PP.o MM.o⟩
 rw [hG1] at h1;obtain ⟨u1,rfl,vv,pp,mm⟩:=h1;replace HR:=HR.o;rw [hG1] at HR;simp only [aC] at HR;replace HR:=Hy HR;obtain rfl:u1=.agg #[.string v1.1,.int .i64 v1.2]:=vv;have M1:=Hy (M.o.next mm);have hs1:=Hy (mm.size);have P1:=Hy pp;replace hG1:=Hy hG1;clear pp mm M P;have hlen:=Hy (show [v1].length+l1.length≤1048576 from by have:=iN hG1.o;have:=HL.o;simp only [List.length_singleton];omega);go_wp2_with (at_builtin;refine un.dD (.tmp 7) (.tmp 10) rfl ?_;refine un.bL _ rfl (.tmp 7) (.tmp 10) rfl w.heap.size _ [] rfl (un.Own.nil _ _) w1.heap.size v1.1 v1.2 rfl (un.Bw.new w1 v1 55) (by decide) (by have:=hs1.o;simp;omega) ?_;intro v2 w2 O2 b2);have b3:=(aj (b0 w1) (.cells #[.string v1.1,.int .i64 v1.2] 55));have P2:=Hy ((P1.o.keeps b3).keep (b2.mono (by have:=hlt.o;omega)));have M2:=Hy ((M1.o.bG b3).trans (.of b2));replace O2:=Hy O2;clear b2 b3 P1 M1 hs1 hG1
 go_loopg [6] (l1.length+1) (fun k v wr => ∃ (x:List un.Fa) (l':List Tk),Hid (un.Own wr w.heap.size v x)∧Hid (Ps wr B l')∧Hid (Mv w.heap.size B w wr)∧Hid (more fac s k x l'=r)∧Hid (x.length+l'.length≤1048576))
 case atStart=>exact ⟨[v1],l1,O2,P2,M2,HR,hlen⟩
 case round =>
  clear O2 P2 M2 HR hlen;obtain ⟨x,l',O,P,M,HR,hlen⟩:=hrel;rcases gk with _ | gk
  ·exact absurd HR.o.symm NE.o
  cases ht:isT s l'
  ·have hok:=Hy (show Rs.ok x l'=r by rw [← HR.o];unfold more;rw [ht];rfl);have HT:=Hy ht;clear ht HR;go_wp2_with fail;refine (aN B s l' _ P.o HT.o).mono ?_;rintro e w3 ⟨rfl,pp,mm⟩;have P3:=Hy pp;have O3:=Hy (xY O.o mm hlt.o lr);have M3:=Hy (M.o.next mm);clear pp mm P O M;go_wp2_with fail;go_ret;exact aQ hok.o.symm O3.o P3.o M3.o
  replace HR:=HR.o;unfold more at HR;rw [ht,if_pos rfl] at HR;replace HR:=Hy HR;have htl:=Hy (aP ht);have HT:=Hy ht;clear ht;go_wp2_with fail;refine (aX B s l' _ P.o HT.o).mono ?_;rintro e w3 ⟨rfl,pp,mm⟩;replace P:=Hy pp;have O3:=Hy (xY O.o mm hlt.o lr);have M3:=Hy (M.o.next mm);clear pp mm O M;go_wp2_with fail;refine (yN B l'.tail _ P.o _ rfl (ig _)).mono ?_;rintro e w4 h1;rcases hG1:fac l'.tail with _ | ⟨v1,l1⟩ | ⟨a1,c1,l1⟩
  ·exact absurd hG1 (ig _)
  rotate_left
  ·rw [hG1] at h1;obtain ⟨rfl,pp,mm⟩:=h1;unfold thr;have hno:=bno HR hG1;have PP:=Hy pp;have MM:=Hy (M3.o.next mm);clear pp mm hG1;go_wp2_with fail;exact ⟨rfl,aI hno.o PP.o MM.o⟩
  rw [hG1] at h1;obtain ⟨u1,rfl,vv,pp,mm⟩:=h1;replace HR:=HR.o;rw [hG1] at HR;simp only [aC] at HR;replace HR:=Hy HR;obtain rfl:u1=.agg #[.string v1.1,.int .i64 v1.2]:=vv;have hl2:=Hy (iN hG1);have O4:=Hy (xY O3.o mm hlt.o lr);have M4:=Hy (M3.o.next mm);have hxl:=Hy (show x.length<5864062014805 from by have:=hlen.o;omega);have hs1:=Hy M4.o.size;have P4:=Hy pp;clear pp mm hG1 M3 O3 P;go_wp2_with (at_builtin;refine un.dD (.tmp 15) (.tmp 18) rfl ?_;refine un.bL _ rfl (.tmp 15) (.tmp 18) rfl w.heap.size _ x rfl (O4.o.keeps (aj (b0 w4) _)) w4.heap.size v1.1 v1.2 rfl (un.Bw.new w4 v1 55) hxl.o (by have:=hs1.o;simp;omega) ?_;intro v2 w2 O2 b2);have b3:=(aj (b0 w4) (.cells #[.string v1.1,.int .i64 v1.2] 55));have P2:=Hy ((P4.o.keeps b3).keep (b2.mono (by have:=hlt.o;omega)));have M2:=Hy ((M4.o.bG b3).trans (.of b2));replace O2:=Hy O2;have hlen2:=Hy (show (x++[v1]).length+l1.length≤1048576 from by have:=hlen.o;have:=hl2.o;have:=htl.o;rw [List.length_append,List.length_singleton];omega);clear b2 b3;go_wp2_with fail;go_roundg gk
  case measure=>omega
  case rel=>exact ⟨x++[v1],l1,O2,P2,M2,HR,hlen2⟩
end pa
end Go.Proofs.YtbpijgddfaefkaaGreatDoor
