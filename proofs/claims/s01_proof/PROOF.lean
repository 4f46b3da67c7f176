import PyProof.Rows.All
import Wide.All
import OpenK.AllK
import Wide.FinOn
import PyProof.EqAt
import PyProof.EqKinds
import PyProof.TupleCall
import KE.BitLaws
import Open.SpecLaws
import KE.OsHead
import KE.OsGo
import PyProof.ListRange
import PyProof.ZipIter
import PyProof.Draws
import PyProof.TupleIter
import PyProof.EnumMake
import PyProof.DictWalks
import PyProof.DictItems
import PySem.Challenge.RW_seathouses_s01_answers
set_option Elab.async false
set_option linter.all false
set_option maxRecDepth 100000
set_option maxHeartbeats 0
section
namespace Sh
open Vbahap
abbrev bC (t : Truth) : Nat × Nat:=(t.r,t.no)
abbrev cI (w : View) : Nat × Nat:=(w.r,w.no)
def rank (status : Nat) : Nat:=if status = 2 then 2 else if status = 1 then 1 else 0
structure ox (t : Truth) : Prop where
 st : 1 ≤ t.status ∧ t.status ≤ 5
 oN : 1 ≤ t.version ∧ t.version + rank t.status ≤ 3
 n : t.status ≤ 2 → 1 ≤ t.n
 n9 : t.n ≤ 9
 f9 : t.f ≤ 9999
structure sM (w : View) : Prop where
 r : w.r ≤ 3
 no : 1 ≤ w.no ∧ w.no ≤ 40
 f : 1 ≤ w.f ∧ w.f ≤ 9999
 n : 1 ≤ w.n ∧ w.n ≤ 9
 st : w.status ≤ 5
def dy (s : State) (r no : Nat) : Prop:=∃ w ∈ s.views,w.r = r ∧ w.no = no
def cY (s : State) (r no v : Nat) : Prop:=∃ t ∈ s.truths,t.r = r ∧ t.no = no ∧ v ≤ t.version
def cX (s : State) : Msg → Prop
 | .ask r no f n => dy s r no ∧ (1 ≤ f ∧ f ≤ 9999) ∧ 1 ≤ n ∧ n ≤ 9
 | .can r no => dy s r no
 | .st r no v st => cY s r no v ∧ 1 ≤ st ∧ st ≤ 5
 | .ack r no v => cY s r no v
structure Good (s : State) : Prop where
 fk : (s.flights.map (·.f)).Nodup
 fl : s.flights.length ≤ 12
 tk : (s.truths.map bC).Nodup
 to : ∀ t ∈ s.truths,ox t
 tv : ∀ t ∈ s.truths,dy s t.r t.no
 vk : (s.views.map cI).Nodup
 vo : ∀ w ∈ s.views,sM w
 vl : s.views.length ≤ 40
 vn : ∀ w ∈ s.views,w.no ≤ (s.views.filter fun x => x.r == w.r).length
 vs : ∀ w ∈ s.views,w.seen = 0 ∨ cY s w.r w.no w.seen
 ms : ∀ m ∈ s.net,cX s m
theorem fw {α β : Type} {g : α → β} : ∀ {l : List α},(l.map g).Nodup → ∀ {x y : α},x ∈ l → y ∈ l → g x = g y → x = y
 | [],_,_,_,hx,_,_ => by cases hx
 | a :: l,h,x,y,hx,hy,e => by
   rw [List.map_cons,List.nodup_cons] at h
   rcases List.mem_cons.mp hx with hx1 | hx1
   ·rcases List.mem_cons.mp hy with hy1 | hy1
    ·rw [hx1,hy1]
    ·exact absurd (by rw [← hx1,e]; exact List.mem_map_of_mem hy1) h.1
   ·rcases List.mem_cons.mp hy with hy1 | hy1
    ·exact absurd (by rw [← hy1,← e]; exact List.mem_map_of_mem hx1) h.1
    ·exact fw h.2 hx1 hy1 e
theorem kE {α : Type} : ∀ {l : List α} {x : α},l.Nodup → x ∉ l → (l ++ [x]).Nodup
 | [],x,_,_ => by simp
 | a :: l,x,h,hx => by
   rw [List.cons_append,List.nodup_cons]
   rw [List.nodup_cons] at h
   refine ⟨fun hm => ?_,kE h.2 fun q => hx (List.mem_cons_of_mem _ q)⟩
   rcases List.mem_append.mp hm with hm | hm
   ·exact h.1 hm
   ·rw [List.mem_singleton] at hm
    exact hx (by rw [hm]; exact List.mem_cons_self)
theorem vU {α : Type} : ∀ {l : List α},l.Nodup → l.reverse.Nodup
 | [],_ => by simp
 | a :: l,h => by
   rw [List.reverse_cons]
   rw [List.nodup_cons] at h
   exact kE (vU h.2) fun q => h.1 (List.mem_reverse.mp q)
theorem KY {α : Type} [DecidableEq α] : ∀ {l m : List α},l.Nodup → (∀ x ∈ l,x ∈ m) → l.length ≤ m.length
 | [],_,_,_ => Nat.zero_le _
 | a :: l,m,h,hs => by
   rw [List.nodup_cons] at h
   have ha : a ∈ m:=hs a List.mem_cons_self
   have:=KY (l:=l) (m:=m.erase a) h.2 (fun x hx => by
    have hne : x ≠ a:=fun q => h.1 (q ▸ hx)
    exact (List.mem_erase_of_ne hne).mpr (hs x (List.mem_cons_of_mem _ hx)))
   have e:=List.length_erase_of_mem ha
   have hp : 0 < m.length:=List.length_pos_of_mem ha
   rw [List.length_cons]
   omega
theorem find_some {α : Type} {p : α → Bool} {l : List α} {x : α} (h : l.find? p = some x) : x ∈ l ∧ p x = true:=⟨List.mem_of_find?_eq_some h,List.find?_some h⟩
theorem Nu {α β : Type} {g : α → β} {p : α → Bool} {l : List α} {x : α} (hn : (l.map g).Nodup) (hx : x ∈ l) (hp : p x = true) (hu : ∀ y ∈ l,p y = true → g y = g x) : l.find? p = some x:=by
 cases e : l.find? p with
 | none => exact absurd hp (by have:=List.find?_eq_none.mp e x hx; simpa using this)
 | some y =>
   have ⟨hy,py⟩:=find_some e
   rw [fw hn hy hx (hu y hy py)]
theorem t8 {s : State} {r no : Nat} {t : Truth} (h : truthOf s r no = some t) : t ∈ s.truths ∧ t.r = r ∧ t.no = no:=by
 have ⟨a,b⟩:=find_some h
 simp at b
 exact ⟨a,b⟩
theorem Gf {s : State} {r no : Nat} (h : truthOf s r no = none) {t : Truth} (ht : t ∈ s.truths) : ¬ (t.r = r ∧ t.no = no):=by
 have:=List.find?_eq_none.mp h t ht
 simpa using this
theorem afw {s : State} (hn : (s.truths.map bC).Nodup) {t : Truth} (ht : t ∈ s.truths) : truthOf s t.r t.no = some t :=
 Nu (g:=bC) hn ht (by simp) fun y _ hy => by simp at hy; simp [bC,hy]
theorem FZ {s : State} {r no : Nat} {t : View} (h : viewOf s r no = some t) : t ∈ s.views ∧ t.r = r ∧ t.no = no:=by
 have ⟨a,b⟩:=find_some h
 simp at b
 exact ⟨a,b⟩
theorem SU {s : State} {r no : Nat} (h : viewOf s r no = none) {t : View} (ht : t ∈ s.views) : ¬ (t.r = r ∧ t.no = no):=by
 have:=List.find?_eq_none.mp h t ht
 simpa using this
theorem afu {s : State} (hn : (s.views.map cI).Nodup) {t : View} (ht : t ∈ s.views) : viewOf s t.r t.no = some t :=
 Nu (g:=cI) hn ht (by simp) fun y _ hy => by simp at hy; simp [cI,hy]
theorem dy.view {s : State} {r no : Nat} (h : dy s r no) : ∃ w,viewOf s r no = some w:=by
 obtain ⟨w,hw,e⟩:=h
 cases q : viewOf s r no with
 | none => exact absurd e (SU q hw)
 | some w => exact ⟨w,rfl⟩
theorem cY.truth {s : State} {r no v : Nat} (h : cY s r no v) : ∃ t,truthOf s r no = some t:=by
 obtain ⟨w,hw,e,e2,_⟩:=h
 cases q : truthOf s r no with
 | none => exact absurd ⟨e,e2⟩ (Gf q hw)
 | some w => exact ⟨w,rfl⟩
theorem ac0 {s : State} {f : Nat} {x : Flight} (h : flightOf s f = some x) : x ∈ s.flights ∧ x.f = f:=by
 have ⟨a,b⟩:=find_some h
 simp at b
 exact ⟨a,b⟩
theorem ac1 {s : State} {f : Nat} (h : flightOf s f = none) {x : Flight} (hx : x ∈ s.flights) : ¬ x.f = f:=by
 have:=List.find?_eq_none.mp h x hx
 simpa using this
theorem mI {s : State} (g : Good s) : s.truths.length ≤ 40:=by
 have:=KY (l:=s.truths.map bC) (m:=s.views.map cI) g.tk (fun x hx => by
  obtain ⟨t,ht,rfl⟩:=List.mem_map.mp hx
  obtain ⟨w,hw,e1,e2⟩:=g.tv t ht
  exact List.mem_map.mpr ⟨w,hw,by simp [cI,bC,e1,e2]⟩)
 rw [List.length_map,List.length_map] at this
 have:=g.vl
 omega
theorem cX.mono {s s' : State} (hv : ∀ r no,dy s r no → dy s' r no) (ht : ∀ r no v,cY s r no v → cY s' r no v) : ∀ {m : Msg},cX s m → cX s' m
 | .ask ..,h => ⟨hv _ _ h.1,h.2⟩
 | .can ..,h => hv _ _ h
 | .st ..,h => ⟨ht _ _ _ h.1,h.2⟩
 | .ack ..,h => ht _ _ _ h
theorem WN {l : List Truth} {u : Truth} : (l.map fun x => if x.r = u.r ∧ x.no = u.no then u else x).map bC = l.map bC:=by
 rw [List.map_map]
 refine List.map_congr_left fun x _ => ?_
 show bC (if x.r = u.r ∧ x.no = u.no then u else x) = bC x
 split
 ·rename_i h
  simp [bC,h.1,h.2]
 ·rfl
theorem G3 {l : List Truth} {u y : Truth} (h : y ∈ l.map fun x => if x.r = u.r ∧ x.no = u.no then u else x) : y = u ∨ (y ∈ l ∧ bC y ≠ bC u):=by
 obtain ⟨x,hx,e⟩:=List.mem_map.mp h
 by_cases q : x.r = u.r ∧ x.no = u.no
 ·rw [if_pos q] at e
  exact .inl e.symm
 ·rw [if_neg q] at e
  subst e
  exact .inr ⟨hx,fun z => q (by simpa [bC] using z)⟩
theorem G4 {l : List Truth} {u x : Truth} (hx : x ∈ l) (hk : bC x ≠ bC u) : x ∈ l.map fun x => if x.r = u.r ∧ x.no = u.no then u else x :=
 List.mem_map.mpr ⟨x,hx,if_neg fun z => hk (by simp [bC,z.1,z.2])⟩
theorem ue {l : List Truth} {u x : Truth} (hx : x ∈ l) (hk : bC x = bC u) : u ∈ l.map fun x => if x.r = u.r ∧ x.no = u.no then u else x :=
 List.mem_map.mpr ⟨x,hx,if_pos (by simpa [bC] using hk)⟩
theorem cY.set {s : State} {t u : Truth} (hn : (s.truths.map bC).Nodup) (ht : t ∈ s.truths) (hk : bC u = bC t) (hv : t.version ≤ u.version) {r no v : Nat} (h : cY s r no v) : cY (setTruth s u) r no v:=by
 obtain ⟨x,hx,e1,e2,e3⟩:=h
 by_cases q : bC x = bC u
 ·have ext : x = t:=fw hn hx ht (q.trans hk)
  subst ext
  refine ⟨u,ue hx q,?_,?_,Nat.le_trans e3 hv⟩
  ·have:=congrArg Prod.fst hk; exact this.trans e1
  ·have:=congrArg Prod.snd hk; exact this.trans e2
 ·exact ⟨x,G4 hx q,e1,e2,e3⟩
theorem MW {s : State} {t u : Truth} (g : Good s) (ht : t ∈ s.truths) (hk : bC u = bC t) (hu : ox u) (hv : t.version ≤ u.version) : Good (setTruth s u):=by
 have hT : ∀ r no v,cY s r no v → cY (setTruth s u) r no v:=fun _ _ _ => cY.set g.tk ht hk hv
 refine ⟨g.fk,g.fl,?_,?_,?_,g.vk,g.vo,g.vl,g.vn,fun w hw => (g.vs w hw).imp id (hT _ _ _),fun m hm => cX.mono (s:=s) (s':=setTruth s u) (fun _ _ h => h) hT (g.ms m hm)⟩
 ·show (List.map bC (s.truths.map _)).Nodup
  rw [WN]
  exact g.tk
 ·intro x hx
  rcases G3 hx with rfl | ⟨hx,_⟩
  ·exact hu
  ·exact g.to x hx
 ·intro x hx
  rcases G3 hx with rfl | ⟨hx,_⟩
  ·have h:=g.tv t ht
   have e1 : x.r = t.r:=congrArg Prod.fst hk
   have e2 : x.no = t.no:=congrArg Prod.snd hk
   rw [e1,e2]
   exact h
  ·exact g.tv x hx
theorem fC {s : State} (g : Good s) {l : List Msg} (h : ∀ m ∈ l,cX s m) : Good (send s l) :=
 ⟨g.fk,g.fl,g.tk,g.to,g.tv,g.vk,g.vo,g.vl,g.vn,g.vs,fun m hm => by
  rcases List.mem_append.mp hm with hm | hm
  ·exact g.ms m hm
  ·exact h m hm⟩
theorem MU {s : State} (g : Good s) {t : Truth} (ht : t ∈ s.truths) : cX s (stMsg t):=⟨⟨t,ht,rfl,rfl,Nat.le_refl _⟩,(g.to t ht).st⟩
theorem qv {s : State} (g : Good s) {t : Truth} (ht : t ∈ s.truths) : Good (Vbahap.send s [Vbahap.stMsg t]):=fC g fun m hm => by
 rw [List.mem_singleton] at hm
 subst hm
 exact MU g ht
def turned (t : Truth) (status : Nat) : Truth:={ t with status:=status,version:=t.version + 1 }
theorem Tc (s : State) (t : Truth) (status : Nat) : turn s t status = send (setTruth s (turned t status)) [stMsg (turned t status)]:=rfl
theorem S3 {t : Truth} {status : Nat} (h : ox t) (hs : 1 ≤ status ∧ status ≤ 5) (hr : rank status + 1 ≤ rank t.status) : ox (turned t status):=by
 refine ⟨hs,⟨Nat.le_add_left _ _,?_⟩,fun _ => ?_,h.n9,h.f9⟩
 ·have:=h.oN.2
  show t.version + 1 + rank status ≤ 3
  omega
 ·refine h.n ?_
  have:=h.st
  unfold rank at hr
  by_cases a : t.status = 2
  ·omega
  ·by_cases b : t.status = 1
   ·omega
   ·rw [if_neg a,if_neg b] at hr
    omega
theorem Ta {s : State} {t x : Truth} {status : Nat} (hx : x ∈ s.truths) (hk : bC x ≠ bC t) : x ∈ (turn s t status).truths:=G4 (u:=turned t status) hx hk
theorem afv {s : State} {t : Truth} {status : Nat} (ht : t ∈ s.truths) : turned t status ∈ (turn s t status).truths:=ue (u:=turned t status) ht rfl
theorem kL {s : State} {t : Truth} {status : Nat} (g : Good s) (ht : t ∈ s.truths) (hs : 1 ≤ status ∧ status ≤ 5) (hr : rank status + 1 ≤ rank t.status) : Good (turn s t status):=by
 rw [Tc]
 have g':=MW g (u:=turned t status) ht rfl (S3 (g.to t ht) hs hr) (Nat.le_succ _)
 exact qv g' (ue (u:=turned t status) ht rfl)
structure Snap (s : State) (l : List Truth) : Prop where
 nd : (l.map bC).Nodup
 mem : ∀ t ∈ l,t ∈ s.truths
theorem Snap.tail {s : State} {t : Truth} {l : List Truth} (h : Snap s (t :: l)) : Snap s l:=⟨(List.nodup_cons.mp h.nd).2,fun x hx => h.mem x (List.mem_cons_of_mem _ hx)⟩
theorem Snap.turn {s : State} {t : Truth} {l : List Truth} {status : Nat} (h : Snap s (t :: l)) : Snap (Vbahap.turn s t status) l :=
 ⟨(List.nodup_cons.mp h.nd).2,fun x hx => Ta (h.mem x (List.mem_cons_of_mem _ hx)) fun q => (List.nodup_cons.mp h.nd).1 (by
   have : bC x ∈ l.map bC:=List.mem_map_of_mem hx
   rw [q] at this
   exact this)⟩
theorem Snap.filter {s : State} (g : (s.truths.map bC).Nodup) (p : Truth → Bool) : Snap s (s.truths.filter p) :=
 ⟨List.Sublist.nodup (List.Sublist.map _ List.filter_sublist) g,fun _ hx => (List.mem_filter.mp hx).1⟩
theorem Snap.reverse {s : State} {l : List Truth} (h : Snap s l) : Snap s l.reverse :=
 ⟨by rw [List.map_reverse]; exact vU h.nd,fun x hx => h.mem x (List.mem_reverse.mp hx)⟩
theorem Ba : ∀ {l : List Truth} {s : State},Good s → Snap s l → (∀ t ∈ l,t.status = 2) → Good (clearAll s l)
 | [],_,g,_,_ => g
 | t :: r,s,g,h,hs => by
   show Good (if t.n ≤ roomOn s t.f then Vbahap.clearAll (Vbahap.turn s t 1) r else Vbahap.clearAll s r)
   have h2 : ∀ x ∈ r,x.status = 2:=fun x hx => hs x (List.mem_cons_of_mem _ hx)
   split
   ·refine Ba (kL g (h.mem t List.mem_cons_self) (by decide) ?_) h.turn h2
    rw [hs t List.mem_cons_self]
    decide
   ·exact Ba g h.tail h2
theorem SQ {s : State} {f : Nat} : ∀ t ∈ waitingOn s f,t.f = f ∧ t.status = 2:=fun t ht => by
 have:=(List.mem_filter.mp ht).2
 simpa using this
theorem M0 {s : State} (g : Good s) (f : Nat) : Good (clearFlight s f) :=
 Ba g (Snap.filter g.tk _) fun t ht => (SQ t ht).2
theorem qu {f cap : Nat} : ∀ {l : List Truth} {s : State},Good s → Snap s l → (∀ t ∈ l,t.status = 1) → Good (withdraw s f cap l)
 | [],_,g,_,_ => g
 | t :: r,s,g,h,hs => by
   show Good (if heldOn s f ≤ cap then s else Vbahap.withdraw (Vbahap.turn s t 5) f cap r)
   split
   ·exact g
   ·refine qu (kL g (h.mem t List.mem_cons_self) (by decide) ?_) h.turn fun x hx => hs x (List.mem_cons_of_mem _ hx)
    rw [hs t List.mem_cons_self]
    decide
theorem MT {status : Nat} (h5 : 3 ≤ status ∧ status ≤ 5) : ∀ {l : List Truth} {s : State},Good s → Snap s l → (∀ t ∈ l,t.status = 1 ∨ t.status = 2) → Good (turnAll s status l)
 | [],_,g,_,_ => g
 | t :: r,s,g,h,hs => by
   show Good (turnAll (turn s t status) status r)
   refine MT h5 (kL g (h.mem t List.mem_cons_self) (by omega) ?_) h.turn fun x hx => hs x (List.mem_cons_of_mem _ hx)
   have : rank status = 0:=by unfold rank; rw [if_neg (by omega),if_neg (by omega)]
   rw [this]
   rcases hs t List.mem_cons_self with e | e <;> rw [e] <;> decide
theorem lD {s : State} (g : Good s) (x : Flight) : Good (setFlight s x):=by
 refine ⟨?_,?_,g.tk,g.to,g.tv,g.vk,g.vo,g.vl,g.vn,g.vs,g.ms⟩
 ·show ((s.flights.map fun y => if y.f = x.f then x else y).map (·.f)).Nodup
  have e : (s.flights.map fun y => if y.f = x.f then x else y).map (·.f) = s.flights.map (·.f):=by
   rw [List.map_map]
   refine List.map_congr_left fun y _ => ?_
   show (if y.f = x.f then x else y).f = y.f
   split
   ·rename_i h; exact h.symm
   ·rfl
  rw [e]
  exact g.fk
 ·show (s.flights.map _).length ≤ 12
  rw [List.length_map]
  exact g.fl
theorem ac3 (s : State) (f n : Nat) : 1 ≤ first s f n ∧ first s f n ≤ 3:=by
 unfold first
 split
 ·decide
 ·split
  ·decide
  ·split
   ·decide
   ·split <;> decide
theorem MY {s : State} (g : Good s) {r no f n status : Nat} (hv : dy s r no) (hn : truthOf s r no = none) (h1 : 1 ≤ status ∧ status ≤ 5) (h2 : status ≤ 2 → 1 ≤ n) (h9 : n ≤ 9) (hf : f ≤ 9999) : Good (newTruth s r no f n status):=by
 let t : Truth:={ r:=r,no:=no,f:=f,n:=n,status:=status,version:=1,acked:=0,seq:=s.seq + 1 }
 let s1 : State:={ s with truths:=s.truths ++ [t],seq:=s.seq + 1 }
 have hT : ∀ r no v,cY s r no v → cY s1 r no v:=fun _ _ _ ⟨x,hx,h⟩ => ⟨x,List.mem_append_left _ hx,h⟩
 have tok : ox t:=⟨h1,⟨Nat.le_refl _,by
  show 1 + rank status ≤ 3
  unfold rank
  split
  ·decide
  ·split <;> decide⟩,h2,h9,hf⟩
 have g1 : Good s1:=by
  refine ⟨g.fk,g.fl,?_,?_,?_,g.vk,g.vo,g.vl,g.vn,fun w hw => (g.vs w hw).imp id (hT _ _ _),fun m hm => cX.mono (s:=s) (s':=s1) (fun _ _ h => h) hT (g.ms m hm)⟩
  ·show ((s.truths ++ [t]).map bC).Nodup
   rw [List.map_append]
   refine kE g.tk fun hm => ?_
   obtain ⟨x,hx,e⟩:=List.mem_map.mp hm
   exact Gf hn hx ⟨congrArg Prod.fst e,congrArg Prod.snd e⟩
  ·intro x hx
   rcases List.mem_append.mp hx with hx | hx
   ·exact g.to x hx
   ·rw [List.mem_singleton] at hx
    subst hx
    exact tok
  ·intro x hx
   rcases List.mem_append.mp hx with hx | hx
   ·exact g.tv x hx
   ·rw [List.mem_singleton] at hx
    subst hx
    exact hv
 exact qv g1 (t:=t) (List.mem_append_right _ List.mem_cons_self)
theorem SR {l : List View} {r no : Nat} {u : View → View} (hu : ∀ x ∈ l,x.r = r ∧ x.no = no → (u x).r = x.r ∧ (u x).no = x.no) : (l.map fun x => if x.r = r ∧ x.no = no then u x else x).map cI = l.map cI:=by
 rw [List.map_map]
 refine List.map_congr_left fun x hx => ?_
 show cI (if x.r = r ∧ x.no = no then u x else x) = cI x
 split
 ·rename_i h
  have:=hu x hx h
  simp [cI,this.1,this.2]
 ·rfl
theorem Nv {α : Type} {p : α → Bool} {u : α → α} : ∀ {l : List α},(∀ x ∈ l,p (u x) = p x) → ((l.map u).filter p).length = (l.filter p).length
 | [],_ => rfl
 | a :: l,h => by
   have ih:=Nv (l:=l) fun x hx => h x (List.mem_cons_of_mem _ hx)
   rw [List.map_cons,List.filter_cons,List.filter_cons,h a List.mem_cons_self]
   split
   ·rw [List.length_cons,List.length_cons,ih]
   ·exact ih
theorem MV {s : State} (g : Good s) {r no : Nat} {u : View → View} (hu : ∀ x ∈ s.views,x.r = r ∧ x.no = no → (u x).r = x.r ∧ (u x).no = x.no ∧ sM (u x) ∧ ((u x).seen = 0 ∨ cY s r no (u x).seen)) :
 Good { s with views:=s.views.map fun x => if x.r = r ∧ x.no = no then u x else x }:=by
 have key : ∀ x ∈ s.views,((fun x => if x.r = r ∧ x.no = no then u x else x) x).r = x.r ∧ ((fun x => if x.r = r ∧ x.no = no then u x else x) x).no = x.no:=fun x hx => by
  show (if x.r = r ∧ x.no = no then u x else x).r = x.r ∧ (if x.r = r ∧ x.no = no then u x else x).no = x.no
  split
  ·rename_i h
   exact ⟨(hu x hx h).1,(hu x hx h).2.1⟩
  ·exact ⟨rfl,rfl⟩
 have hV : ∀ a b,dy s a b → dy { s with views:=s.views.map fun x => if x.r = r ∧ x.no = no then u x else x } a b:=fun a b ⟨w,hw,e1,e2⟩ =>
  ⟨_,List.mem_map_of_mem hw,(key w hw).1.trans e1,(key w hw).2.trans e2⟩
 refine ⟨g.fk,g.fl,g.tk,g.to,fun t ht => hV _ _ (g.tv t ht),?_,?_,?_,?_,?_,fun m hm => (g.ms m hm).mono hV fun _ _ _ h => h⟩
 ·show ((s.views.map _).map cI).Nodup
  rw [SR fun x hx h => ⟨(hu x hx h).1,(hu x hx h).2.1⟩]
  exact g.vk
 ·intro w hw
  obtain ⟨x,hx,e⟩:=List.mem_map.mp hw
  subst e
  split
  ·rename_i h
   exact (hu x hx h).2.2.1
  ·exact g.vo x hx
 ·show (s.views.map _).length ≤ 40
  rw [List.length_map]
  exact g.vl
 ·intro w hw
  obtain ⟨x,hx,e⟩:=List.mem_map.mp hw
  have k:=key x hx
  rw [← e]
  show _ ≤ ((s.views.map fun x => if x.r = r ∧ x.no = no then u x else x).filter _).length
  have fl:=Nv (p:=fun y : View => y.r == x.r) (u:=fun x => if x.r = r ∧ x.no = no then u x else x) (l:=s.views) fun y hy => by
   show (((fun x => if x.r = r ∧ x.no = no then u x else x) y).r == x.r) = (y.r == x.r)
   rw [(key y hy).1]
  have k1 : (if x.r = r ∧ x.no = no then u x else x).r = x.r:=k.1
  have k2 : (if x.r = r ∧ x.no = no then u x else x).no = x.no:=k.2
  rw [k1,k2,fl]
  exact g.vn x hx
 ·intro w hw
  obtain ⟨x,hx,e⟩:=List.mem_map.mp hw
  subst e
  split
  ·rename_i h
   have q:=hu x hx h
   rcases q.2.2.2 with z | z
   ·exact .inl z
   ·rw [q.1,q.2.1,h.1,h.2]
    exact .inr z
  ·exact g.vs x hx
theorem MX {s : State} (g : Good s) {m : Msg} (hm : cX s m) : Good (receive s m):=by
 match m,hm with
 | .ask r no f n,hm =>
   show Good (match truthOf s r no with
    | some t => Vbahap.send s [Vbahap.stMsg t]
    | none => Vbahap.newTruth s r no f n (first s f n))
   split
   ·rename_i t e
    exact qv g (t8 e).1
   ·rename_i e
    have:=ac3 s f n
    exact MY g hm.1 e (by omega) (fun _ => hm.2.2.1) hm.2.2.2 hm.2.1.2
 | .can r no,hm =>
   show Good (match truthOf s r no with
    | none => Vbahap.newTruth s r no 0 0 4
    | some t => if final t.status = true then Vbahap.send s [Vbahap.stMsg t] else Vbahap.clearFlight (Vbahap.turn s t 4) t.f)
   split
   ·rename_i e
    exact MY g hm e (by decide) (by decide) (by decide) (by decide)
   ·rename_i t e
    have ht:=(t8 e).1
    split
    ·exact qv g ht
    ·rename_i hf
     refine M0 (kL g ht (by decide) ?_) _
     have hst:=(g.to t ht).st
     simp [final] at hf
     have : t.status = 1 ∨ t.status = 2:=by omega
     rcases this with e | e <;> rw [e] <;> decide
 | .st r no v status,hm =>
   show Good (match viewOf s r no with
    | none => s
    | some w =>
      let u:=if w.seen < v then { w with seen:=v,status:=status } else w
      Vbahap.send { s with views:=s.views.map fun x => if x.r = r ∧ x.no = no then u else x } [.ack r no u.seen])
   split
   ·exact g
   ·rename_i w e
    obtain ⟨hw,e1,e2⟩:=FZ e
    have hseen : cY s r no (if w.seen < v then { w with seen:=v,status:=status } else w : View).seen:=by
     split
     ·exact hm.1
     ·rename_i hlt
      rcases g.vs w hw with z | z
      ·rw [z]
       obtain ⟨t,ht,a,b,_⟩:=hm.1
       exact ⟨t,ht,a,b,Nat.zero_le _⟩
      ·rw [e1,e2] at z
       exact z
    have g1:=MV g (r:=r) (no:=no) (u:=fun _ => if w.seen < v then { w with seen:=v,status:=status } else w) fun x hx hk => by
     have exw : x = w:=fw g.vk hx hw (by simp [cI,hk.1,hk.2,e1,e2])
     subst exw
     have ok:=g.vo x hx
     refine ⟨?_,?_,?_,.inr hseen⟩
     ·show (if x.seen < v then { x with seen:=v,status:=status } else x : View).r = x.r
      split <;> rfl
     ·show (if x.seen < v then { x with seen:=v,status:=status } else x : View).no = x.no
      split <;> rfl
     ·show sM (if x.seen < v then { x with seen:=v,status:=status } else x : View)
      split
      ·exact ⟨ok.r,ok.no,ok.f,ok.n,hm.2.2⟩
      ·exact ok
    refine fC g1 fun m hm' => ?_
    rw [List.mem_singleton] at hm'
    subst hm'
    exact hseen
 | .ack r no v,hm =>
   show Good (match truthOf s r no with
    | none => s
    | some t => setTruth s { t with acked:=max t.acked (min v t.version) })
   split
   ·exact g
   ·rename_i t e
    have ht:=(t8 e).1
    have ok:=g.to t ht
    exact MW g (t:=t) ht rfl ⟨ok.st,ok.oN,ok.n,ok.n9,ok.f9⟩ (Nat.le_refl _)
theorem mJ {s : State} (g : Good s) : ∀ m ∈ again s,cX s m:=by
 intro m hm
 rcases List.mem_append.mp hm with hm | hm
 ·obtain ⟨w,hw,e⟩:=List.mem_filterMap.mp hm
  have hv : dy s w.r w.no:=⟨w,hw,rfl,rfl⟩
  have ok:=g.vo w hw
  split at e
  ·cases e; exact hv
  ·split at e
   ·cases e; exact ⟨hv,ok.f,ok.n⟩
   ·cases e
 ·obtain ⟨t,ht,e⟩:=List.mem_filterMap.mp hm
  split at e
  ·cases e; exact MU g ht
  ·cases e
theorem Bg {α β : Type} {q : α → Option β} : ∀ {l : List α},(l.filterMap q).length ≤ l.length
 | [] => Nat.le_refl _
 | a :: l => by
   have ih:=Bg (q:=q) (l:=l)
   rw [List.filterMap_cons]
   split
   ·rw [List.length_cons]; omega
   ·rw [List.length_cons,List.length_cons]; omega
theorem M3 {s : State} (g : Good s) : (Vbahap.again s).length ≤ 80:=by
 unfold Vbahap.again
 rw [List.length_append]
 have h1:=Bg (q:=fun w : View => if w.cancel = true ∧ final w.status = false then some (Msg.can w.r w.no) else if w.seen = 0 then some (Msg.ask w.r w.no w.f w.n) else none) (l:=s.views)
 have h2:=Bg (q:=fun t : Truth => if t.acked < t.version then some (Vbahap.stMsg t) else none) (l:=s.truths)
 have:=g.vl
 have:=mI g
 omega
def wt : Msg → Nat
 | .ask .. => 3
 | .can .. => 83
 | .st .. => 2
 | .ack .. => 1
def bG : List Msg → Nat
 | [] => 0
 | m :: r => wt m + bG r
theorem IS : ∀ l m : List Msg,bG (l ++ m) = bG l + bG m
 | [],m => by simp [bG]
 | a :: l,m => by
   have:=IS l m
   simp only [List.cons_append,bG]
   omega
theorem tU (m : Msg) : 1 ≤ wt m ∧ wt m ≤ 83:=by cases m <;> simp [wt]
theorem my : ∀ l : List Msg,l.length ≤ bG l
 | [] => Nat.le_refl _
 | a :: l => by
   have:=my l
   have:=tU a
   simp only [List.length_cons,bG]
   omega
theorem uC : ∀ l : List Msg,bG l ≤ 83 * l.length
 | [] => Nat.le_refl _
 | a :: l => by
   have:=uC l
   have:=tU a
   simp only [List.length_cons,bG]
   omega
theorem sk : ∀ (l : List Truth) (s : State),∃ m,(clearAll s l).net = s.net ++ m ∧ bG m ≤ 2 * l.length ∧ m.length ≤ l.length
 | [],s => ⟨[],by simp [clearAll],Nat.le_refl _,Nat.le_refl _⟩
 | t :: r,s => by
   show ∃ m,(if t.n ≤ roomOn s t.f then clearAll (turn s t 1) r else clearAll s r).net = s.net ++ m ∧ _
   split
   ·obtain ⟨m,e,h,h'⟩:=sk r (turn s t 1)
    refine ⟨stMsg (turned t 1) :: m,?_,?_,?_⟩
    ·rw [e]
     show (s.net ++ [stMsg (turned t 1)]) ++ m = _
     simp
    ·simp only [bG,List.length_cons,stMsg,wt]
     omega
    ·simp only [List.length_cons]
     omega
   ·obtain ⟨m,e,h,h'⟩:=sk r s
    exact ⟨m,e,by rw [List.length_cons]; omega,by rw [List.length_cons]; omega⟩
theorem FT {f cap : Nat} : ∀ (l : List Truth) (s : State),∃ m,(withdraw s f cap l).net = s.net ++ m ∧ m.length ≤ l.length
 | [],s => ⟨[],by simp [withdraw],Nat.le_refl _⟩
 | t :: r,s => by
   show ∃ m,(if heldOn s f ≤ cap then s else withdraw (turn s t 5) f cap r).net = s.net ++ m ∧ _
   split
   ·exact ⟨[],by simp,Nat.zero_le _⟩
   ·obtain ⟨m,e,h⟩:=FT r (turn s t 5)
    refine ⟨stMsg (turned t 5) :: m,?_,?_⟩
    ·rw [e]
     show (s.net ++ [stMsg (turned t 5)]) ++ m = _
     simp
    ·simp only [List.length_cons]
     omega
theorem Gd {status : Nat} : ∀ (l : List Truth) (s : State),∃ m,(turnAll s status l).net = s.net ++ m ∧ m.length ≤ l.length
 | [],s => ⟨[],by simp [turnAll],Nat.le_refl _⟩
 | t :: r,s => by
   obtain ⟨m,e,h⟩:=Gd r (turn s t status)
   refine ⟨stMsg (turned t status) :: m,?_,?_⟩
   ·show (turnAll (turn s t status) status r).net = _
    rw [e]
    show (s.net ++ [stMsg (turned t status)]) ++ m = _
    simp
   ·simp only [List.length_cons]
    omega
theorem II {s : State} (g : Good s) (m : Msg) : ∃ l,(receive s m).net = s.net ++ l ∧ bG l + 1 ≤ wt m:=by
 match m with
 | .ask r no f n =>
   show ∃ l,(match truthOf s r no with
    | some t => Vbahap.send s [Vbahap.stMsg t]
    | none => Vbahap.newTruth s r no f n (first s f n)).net = s.net ++ l ∧ _
   split <;> exact ⟨_,rfl,by simp [bG,wt,Vbahap.stMsg]⟩
 | .can r no =>
   show ∃ l,(match truthOf s r no with
    | none => Vbahap.newTruth s r no 0 0 4
    | some t => if final t.status = true then Vbahap.send s [Vbahap.stMsg t] else Vbahap.clearFlight (Vbahap.turn s t 4) t.f).net = s.net ++ l ∧ _
   split
   ·exact ⟨_,rfl,by simp [bG,wt,Vbahap.stMsg]⟩
   ·split
    ·exact ⟨_,rfl,by simp [bG,wt,Vbahap.stMsg]⟩
    ·rename_i t e hf
     obtain ⟨m,e,h,_⟩:=sk (waitingOn (turn s t 4) t.f) (turn s t 4)
     refine ⟨Vbahap.stMsg (turned t 4) :: m,?_,?_⟩
     ·show (Vbahap.clearAll _ _).net = _
      rw [e]
      show (s.net ++ [Vbahap.stMsg (turned t 4)]) ++ m = _
      simp
     ·have h2 : (waitingOn (turn s t 4) t.f).length ≤ s.truths.length:=by
       have : (waitingOn (turn s t 4) t.f).length ≤ (turn s t 4).truths.length:=List.length_filter_le _ _
       have e2 : (turn s t 4).truths.length = s.truths.length:=by
        show (s.truths.map _).length = _
        rw [List.length_map]
       omega
      have:=mI g
      simp only [bG,wt,Vbahap.stMsg]
      omega
 | .st r no v status =>
   show ∃ l,(match viewOf s r no with
    | none => s
    | some w =>
      let u:=if w.seen < v then { w with seen:=v,status:=status } else w
      Vbahap.send { s with views:=s.views.map fun (x : View) => if x.r = r ∧ x.no = no then u else x } [.ack r no u.seen] : State).net = s.net ++ l ∧ _
   split
   ·exact ⟨[],by simp,by simp [bG,wt]⟩
   ·exact ⟨_,rfl,by simp [bG,wt]⟩
 | .ack r no v =>
   show ∃ l,(match truthOf s r no with
    | none => s
    | some t => setTruth s { t with acked:=max t.acked (min v t.version) }).net = s.net ++ l ∧ _
   split
   ·exact ⟨[],by simp,by simp [bG,wt]⟩
   ·exact ⟨[],by simp [setTruth],by simp [bG,wt]⟩
theorem MZ {s : State} {m : Msg} {r : List Msg} (g : Good s) (e : s.net = m :: r) : Good { s with net:=r } ∧ cX { s with net:=r } m :=
 ⟨⟨g.fk,g.fl,g.tk,g.to,g.tv,g.vk,g.vo,g.vl,g.vn,g.vs,fun x hx => (g.ms x (by rw [e]; exact List.mem_cons_of_mem _ hx)).mono (fun _ _ h => h) fun _ _ _ h => h⟩,
   (g.ms m (by rw [e]; exact List.mem_cons_self)).mono (fun _ _ h => h) fun _ _ _ h => h⟩
theorem qw {s : State} (g : Good s) (k : Nat) : Good { s with net:=s.net.eraseIdx k } :=
 ⟨g.fk,g.fl,g.tk,g.to,g.tv,g.vk,g.vo,g.vl,g.vn,g.vs,fun x hx => (g.ms x (List.mem_of_mem_eraseIdx hx)).mono (fun _ _ h => h) fun _ _ _ h => h⟩
theorem qx {s : State} (g : Good s) {k : Nat} {m : Msg} (e : s.net[k]? = some m) : cX s m:=g.ms m (List.mem_of_getElem? e)
def dr (s : State) : State:=match s.net with
 | [] => s
 | x :: r => receive { s with net:=r } x
theorem A9 {s : State} (g : Good s) : Good (dr s):=by
 unfold Sh.dr
 split
 ·exact g
 ·rename_i m r e
  obtain ⟨a,b⟩:=MZ g e
  exact MX a b
theorem Bo {s : State} (g : Good s) (h : s.net ≠ []) : bG (dr s).net + 1 ≤ bG s.net:=by
 unfold dr
 split
 ·rename_i e; exact absurd e h
 ·rename_i m r e
  obtain ⟨a,b⟩:=MZ g e
  obtain ⟨l,el,hl⟩:=II a m
  rw [el,e]
  show bG (r ++ l) + 1 ≤ wt m + bG r
  rw [IS]
  omega
theorem qC {m : Nat} {s : State} {k : Nat} (h : s.net ≠ []) : drain (m + 1) s k = drain m (dr s) (k + 1):=by
 unfold dr
 cases e : s.net with
 | nil => exact absurd e h
 | cons x r => simp only [drain,e]
theorem ka {m : Nat} {s : State} {k : Nat} (h : s.net = []) : drain m s k = (s,k):=by
 cases m with
 | zero => rfl
 | succ m => simp only [drain,h]
theorem Bm : ∀ {m n : Nat} {s : State} {k : Nat},Good s → bG s.net ≤ m → bG s.net ≤ n → drain m s k = drain n s k
 | 0,n,s,k,g,h,_ => by
   have : s.net = []:=List.length_eq_zero_iff.mp (by have:=my s.net; omega)
   rw [ka this,ka this]
 | m + 1,0,s,k,g,_,h => by
   have : s.net = []:=List.length_eq_zero_iff.mp (by have:=my s.net; omega)
   rw [ka this,ka this]
 | m + 1,n + 1,s,k,g,h1,h2 => by
   by_cases e : s.net = []
   ·rw [ka e,ka e]
   ·rw [qC e,qC e]
    have:=Bo g e
    exact Bm (A9 g) (by omega) (by omega)
theorem Bn : ∀ {m : Nat} {s : State} {k : Nat},Good s → bG s.net ≤ m → Good (drain m s k).1 ∧ (drain m s k).1.net = []
 | 0,s,k,g,h => by
   have : s.net = []:=List.length_eq_zero_iff.mp (by have:=my s.net; omega)
   rw [ka this]
   exact ⟨g,this⟩
 | m + 1,s,k,g,h => by
   by_cases e : s.net = []
   ·rw [ka e]
    exact ⟨g,e⟩
   ·rw [qC e]
    have:=Bo g e
    exact Bn (A9 g) (by omega)
theorem Bj (s : State) : bG s.net ≤ enough s:=by
 have:=uC s.net
 unfold enough
 omega
def FP : Call → Prop
 | .sell r f n => r ≤ 3 ∧ (1 ≤ f ∧ f ≤ 9999) ∧ 1 ≤ n ∧ n ≤ 9
 | _ => True
theorem acp : Good Vbahap.start :=
 ⟨List.nodup_nil,Nat.zero_le _,List.nodup_nil,by simp [Vbahap.start],by simp [Vbahap.start],List.nodup_nil,by simp [Vbahap.start],Nat.zero_le _,by simp [Vbahap.start],by simp [Vbahap.start],by simp [Vbahap.start]⟩
theorem K0 {s : State} (g : Good s) {r : Nat} {w : View} (hw : w ∈ s.views) (hr : w.r = r) : w.no ≠ (s.views.filter fun x => x.r == r).length + 1:=fun q => by
 have:=g.vn w hw
 rw [hr] at this
 omega
theorem acq {s : State} (g : Good s) {r f n : Nat} (hr : r ≤ 3) (hf : 1 ≤ f ∧ f ≤ 9999) (hn : 1 ≤ n ∧ n ≤ 9) (hl : s.views.length < 40) :
 Good (Vbahap.send { s with views:=s.views ++ [{ r:=r,no:=(s.views.filter fun w => w.r == r).length + 1,f:=f,n:=n,cancel:=false,seen:=0,status:=0 }] } [.ask r ((s.views.filter fun w => w.r == r).length + 1) f n]):=by
 let no:=(s.views.filter fun w => w.r == r).length + 1
 let w : View:={ r:=r,no:=no,f:=f,n:=n,cancel:=false,seen:=0,status:=0 }
 let s1 : State:={ s with views:=s.views ++ [w] }
 have hV : ∀ a b,dy s a b → dy s1 a b:=fun _ _ ⟨x,hx,h⟩ => ⟨x,List.mem_append_left _ hx,h⟩
 have hno : no ≤ 40:=by
  have : (s.views.filter fun w => w.r == r).length ≤ s.views.length:=List.length_filter_le _ _
  show (s.views.filter fun w => w.r == r).length + 1 ≤ 40
  omega
 have wok : sM w:=⟨hr,⟨Nat.le_add_left _ _,hno⟩,hf,hn,Nat.zero_le _⟩
 have g1 : Good s1:=by
  refine ⟨g.fk,g.fl,g.tk,g.to,fun t ht => hV _ _ (g.tv t ht),?_,?_,?_,?_,?_,fun m hm => (g.ms m hm).mono hV fun _ _ _ h => h⟩
  ·show ((s.views ++ [w]).map cI).Nodup
   rw [List.map_append]
   refine kE g.vk fun hm => ?_
   obtain ⟨x,hx,e⟩:=List.mem_map.mp hm
   exact K0 g hx (congrArg Prod.fst e : x.r = r) (congrArg Prod.snd e)
  ·intro x hx
   rcases List.mem_append.mp hx with hx | hx
   ·exact g.vo x hx
   ·rw [List.mem_singleton] at hx
    subst hx
    exact wok
  ·show (s.views ++ [w]).length ≤ 40
   rw [List.length_append,List.length_singleton]
   omega
  ·intro x hx
   show x.no ≤ ((s.views ++ [w]).filter fun y => y.r == x.r).length
   rw [List.filter_append,List.length_append]
   rcases List.mem_append.mp hx with hx | hx
   ·have:=g.vn x hx
    omega
   ·rw [List.mem_singleton] at hx
    subst hx
    show no ≤ (s.views.filter fun y => y.r == r).length + ([w].filter fun y => y.r == r).length
    have : ([w].filter fun y => y.r == r) = [w]:=by simp [w]
    rw [this]
    exact Nat.le_refl _
  ·intro x hx
   rcases List.mem_append.mp hx with hx | hx
   ·exact g.vs x hx
   ·rw [List.mem_singleton] at hx
    subst hx
    exact .inl rfl
 refine fC g1 fun m hm => ?_
 rw [List.mem_singleton] at hm
 subst hm
 exact ⟨⟨w,List.mem_append_right _ List.mem_cons_self,rfl,rfl⟩,hf,hn⟩
theorem acs {s : State} (g : Good s) {r no : Nat} (hw : ∃ w,viewOf s r no = some w) :
 Good (Vbahap.send { s with views:=s.views.map fun x => if x.r = r ∧ x.no = no then { x with cancel:=true } else x } [.can r no]):=by
 obtain ⟨w,e⟩:=hw
 obtain ⟨hw,e1,e2⟩:=FZ e
 refine fC (MV g (r:=r) (no:=no) (u:=fun x => { x with cancel:=true }) fun x hx h => ?_) fun m hm => ?_
 ·have ok:=g.vo x hx
  refine ⟨rfl,rfl,⟨ok.r,ok.no,ok.f,ok.n,ok.st⟩,?_⟩
  have:=g.vs x hx
  rw [h.1,h.2] at this
  exact this
 ·rw [List.mem_singleton] at hm
  subst hm
  refine ⟨_,List.mem_map_of_mem hw,?_⟩
  rw [if_pos ⟨e1,e2⟩]
  exact ⟨e1,e2⟩
theorem aco {s : State} (g : Good s) {c : Call} (hc : FP c) : Good (Vbahap.step s c).1:=by
 match c,hc with
 | .flight f cap,_ =>
   show Good (if (flightOf s f).isSome = true then (s,[-5]) else if MOSTFLIGHTS ≤ s.flights.length then (s,[-6]) else ({ s with flights:=s.flights ++ [{ f:=f,cap:=cap,shut:=false }] },[0]) : State × List Int).1
   split
   ·exact g
   ·split
    ·exact g
    ·rename_i h1 h2
     refine ⟨?_,?_,g.tk,g.to,g.tv,g.vk,g.vo,g.vl,g.vn,g.vs,fun m hm => (g.ms m hm).mono (fun _ _ h => h) fun _ _ _ h => h⟩
     ·show ((s.flights ++ [_]).map fun (x : Flight) => x.f).Nodup
      rw [List.map_append]
      refine kE g.fk fun hm => ?_
      obtain ⟨x,hx,e⟩:=List.mem_map.mp hm
      have : flightOf s f = none:=by cases q : flightOf s f with
       | none => rfl
       | some y => rw [q] at h1; simp at h1
      exact ac1 this hx e
     ·show (s.flights ++ [_]).length ≤ 12
      rw [List.length_append,List.length_singleton]
      unfold MOSTFLIGHTS at h2
      omega
 | .cap f cap,_ =>
   show Good (onFlight s f fun x => if x.shut = true then (s,[-7]) else
    let t:=Vbahap.clearFlight (Vbahap.withdraw (Vbahap.setFlight s { x with cap:=cap }) f cap ((s.truths.filter fun t => t.f == f && t.status == 1).reverse)) f
    (t,grown s t)).1
   unfold onFlight
   split
   ·exact g
   ·dsimp only
    split
    ·exact g
    ·refine M0 (qu (lD g _) (Snap.reverse (Snap.filter (s:=Vbahap.setFlight s _) g.tk _)) fun t ht => ?_) f
     have:=(List.mem_filter.mp (List.mem_reverse.mp ht)).2
     simp at this
     exact this.2
 | .shut f,_ =>
   show Good (onFlight s f fun x => if x.shut = true then (s,[-7]) else
    let t:=Vbahap.turnAll (Vbahap.setFlight s { x with shut:=true }) 5 (s.truths.filter fun t => t.f == f && !final t.status)
    (t,grown s t)).1
   unfold onFlight
   split
   ·exact g
   ·dsimp only
    split
    ·exact g
    ·refine MT (by decide) (lD g _) (Snap.filter (s:=Vbahap.setFlight s _) g.tk _) fun t ht => ?_
     have h2:=List.mem_filter.mp ht
     have:=h2.2
     simp [final] at this
     have:=(g.to t h2.1).st
     omega
 | .sell r f n,hc =>
   show Good (if MOSTSALES ≤ s.views.length then (s,[-6]) else _ : State × List Int).1
   split
   ·exact g
   ·rename_i h
    unfold MOSTSALES at h
    exact acq g hc.1 hc.2.1 hc.2.2 (by omega)
 | .giveUp r no,_ =>
   show Good (match viewOf s r no with
    | none => (s,[-4])
    | some w => if w.cancel = true ∨ final w.status = true then (s,[-7])
      else (Vbahap.send { s with views:=s.views.map fun x => if x.r = r ∧ x.no = no then { x with cancel:=true } else x } [.can r no],[0]) : State × List Int).1
   split
   ·exact g
   ·rename_i w e
    split
    ·exact g
    ·exact acs g ⟨w,e⟩
 | .deliver k,_ =>
   show Good (onMsg s k fun m =>
    let t:={ s with net:=s.net.eraseIdx k }
    let u:=Vbahap.receive t m
    (u,grown t u)).1
   unfold onMsg
   split
   ·exact g
   ·rename_i m e
    exact MX (qw g k) ((qx g e).mono (fun _ _ h => h) fun _ _ _ h => h)
 | .lose k,_ =>
   show Good (onMsg s k fun _ => ({ s with net:=s.net.eraseIdx k },[0])).1
   unfold onMsg
   split
   ·exact g
   ·exact qw g k
 | .double k,_ =>
   show Good (onMsg s k fun m => if MOSTNET ≤ s.net.length then (s,[-6]) else (Vbahap.send s [m],[0])).1
   unfold onMsg
   split
   ·exact g
   ·rename_i m e
    dsimp only
    split
    ·exact g
    ·refine fC g fun x hx => ?_
     rw [List.mem_singleton] at hx
     subst hx
     exact qx g e
 | .again,_ => exact fC g (mJ g)
 | .calm,_ => exact (Bn (k:=0) (fC g (mJ g)) (Bj _)).1
 | .view r no,_ =>
   show Good (match viewOf s r no with
    | none => (s,[-4])
    | some w => (s,[0,(w.seen : Int),(w.status : Int),if w.cancel = true then 1 else 0,(w.f : Int),(w.n : Int)]) : State × List Int).1
   split <;> exact g
 | .truth r no,_ =>
   show Good (match truthOf s r no with
    | none => (s,[-4])
    | some t => (s,[0,(t.version : Int),(t.status : Int),(t.acked : Int)]) : State × List Int).1
   split <;> exact g
 | .seats f,_ =>
   show Good (onFlight s f fun x => (s,_)).1
   unfold onFlight
   split <;> exact g
 | .line f,_ =>
   show Good (onFlight s f fun x => (s,_)).1
   unfold onFlight
   split <;> exact g
 | .net,_ => exact g
 | .text k,_ =>
   show Good (onMsg s k fun m => (s,_)).1
   unfold onMsg
   split <;> exact g
 | .read b,_ =>
   show Good (match readMsg b with
    | none => (s,[-8])
    | some m => (s,0 :: Vbahap.ints (numbersOf m)) : State × List Int).1
   split <;> exact g
 | .settled,_ => exact g
theorem aaY {s : State} (g : Good s) {c : Call} (hc : FP c) : (Vbahap.step s c).1.net.length ≤ s.net.length + 100:=by
 have tl:=mI g
 match c,hc with
 | .flight f cap,_ =>
   show (if (flightOf s f).isSome = true then (s,[-5]) else if MOSTFLIGHTS ≤ s.flights.length then (s,[-6]) else ({ s with flights:=s.flights ++ [{ f:=f,cap:=cap,shut:=false }] },[0]) : State × List Int).1.net.length ≤ _
   split
   ·show s.net.length ≤ _
    omega
   ·split
    ·show s.net.length ≤ _
     omega
    ·show s.net.length ≤ _
     omega
 | .cap f cap,_ =>
   show (onFlight s f fun x => if x.shut = true then (s,[-7]) else
    let t:=Vbahap.clearFlight (Vbahap.withdraw (Vbahap.setFlight s { x with cap:=cap }) f cap ((s.truths.filter fun t => t.f == f && t.status == 1).reverse)) f
    (t,grown s t)).1.net.length ≤ _
   unfold onFlight
   split
   ·show s.net.length ≤ _
    omega
   ·rename_i x _
    dsimp only
    split
    ·show s.net.length ≤ _
     omega
    ·obtain ⟨m,e,h⟩:=FT (f:=f) (cap:=cap) ((s.truths.filter fun t => t.f == f && t.status == 1).reverse) (Vbahap.setFlight s { x with cap:=cap })
     obtain ⟨m2,e2,_,h2⟩:=sk (waitingOn (Vbahap.withdraw (Vbahap.setFlight s { x with cap:=cap }) f cap ((s.truths.filter fun t => t.f == f && t.status == 1).reverse)) f) (Vbahap.withdraw (Vbahap.setFlight s { x with cap:=cap }) f cap ((s.truths.filter fun t => t.f == f && t.status == 1).reverse))
     show (Vbahap.clearAll _ _).net.length ≤ _
     rw [e2,e,List.length_append,List.length_append]
     have g2:=qu (f:=f) (cap:=cap) (lD g { x with cap:=cap }) (Snap.reverse (Snap.filter (s:=Vbahap.setFlight s { x with cap:=cap }) g.tk _)) (l:=((s.truths.filter fun t => t.f == f && t.status == 1).reverse)) fun t ht => by
      have:=(List.mem_filter.mp (List.mem_reverse.mp ht)).2
      simp at this
      exact this.2
     have l1 : ((s.truths.filter fun t => t.f == f && t.status == 1).reverse).length ≤ s.truths.length:=by
      rw [List.length_reverse]
      exact List.length_filter_le _ _
     have l2:=List.length_filter_le (fun t : Truth => t.f == f && t.status == 2) (Vbahap.withdraw (Vbahap.setFlight s { x with cap:=cap }) f cap ((s.truths.filter fun t => t.f == f && t.status == 1).reverse)).truths
     have l3:=mI g2
     have l4 : (Vbahap.setFlight s { x with cap:=cap }).net.length = s.net.length:=rfl
     unfold waitingOn at h2
     omega
 | .shut f,_ =>
   show (onFlight s f fun x => if x.shut = true then (s,[-7]) else
    let t:=Vbahap.turnAll (Vbahap.setFlight s { x with shut:=true }) 5 (s.truths.filter fun t => t.f == f && !final t.status)
    (t,grown s t)).1.net.length ≤ _
   unfold onFlight
   split
   ·show s.net.length ≤ _
    omega
   ·rename_i x _
    dsimp only
    split
    ·show s.net.length ≤ _
     omega
    ·obtain ⟨m,e,h⟩:=Gd (status:=5) (s.truths.filter fun t => t.f == f && !final t.status) (Vbahap.setFlight s { x with shut:=true })
     show (Vbahap.turnAll _ _ _).net.length ≤ _
     rw [e,List.length_append]
     have l1:=List.length_filter_le (fun t : Truth => t.f == f && !final t.status) s.truths
     have l4 : (Vbahap.setFlight s { x with shut:=true }).net.length = s.net.length:=rfl
     omega
 | .sell r f n,hc =>
   show (if MOSTSALES ≤ s.views.length then (s,[-6]) else _ : State × List Int).1.net.length ≤ _
   split
   ·show s.net.length ≤ _
    omega
   ·show (s.net ++ [_]).length ≤ _
    rw [List.length_append,List.length_singleton]
    omega
 | .giveUp r no,_ =>
   show (match viewOf s r no with
    | none => (s,[-4])
    | some w => if w.cancel = true ∨ final w.status = true then (s,[-7])
      else (Vbahap.send { s with views:=s.views.map fun x => if x.r = r ∧ x.no = no then { x with cancel:=true } else x } [.can r no],[0]) : State × List Int).1.net.length ≤ _
   split
   ·show s.net.length ≤ _
    omega
   ·split
    ·show s.net.length ≤ _
     omega
    ·show (s.net ++ [_]).length ≤ _
     rw [List.length_append,List.length_singleton]
     omega
 | .deliver k,_ =>
   show (onMsg s k fun m =>
    let t:={ s with net:=s.net.eraseIdx k }
    let u:=Vbahap.receive t m
    (u,grown t u)).1.net.length ≤ _
   unfold onMsg
   split
   ·show s.net.length ≤ _
    omega
   ·rename_i m e
    obtain ⟨l,el,hl⟩:=II (qw g k) m
    show (Vbahap.receive _ m).net.length ≤ _
    rw [el,List.length_append]
    have:=my l
    have:=tU m
    have : (s.net.eraseIdx k).length ≤ s.net.length:=List.length_eraseIdx_le _ _
    show (s.net.eraseIdx k).length + l.length ≤ _
    omega
 | .lose k,_ =>
   show (onMsg s k fun _ => ({ s with net:=s.net.eraseIdx k },[0])).1.net.length ≤ _
   unfold onMsg
   split
   ·show s.net.length ≤ _
    omega
   ·have : (s.net.eraseIdx k).length ≤ s.net.length:=List.length_eraseIdx_le _ _
    show (s.net.eraseIdx k).length ≤ _
    omega
 | .double k,_ =>
   show (onMsg s k fun m => if MOSTNET ≤ s.net.length then (s,[-6]) else (Vbahap.send s [m],[0])).1.net.length ≤ _
   unfold onMsg
   split
   ·show s.net.length ≤ _
    omega
   ·dsimp only
    split
    ·show s.net.length ≤ _
     omega
    ·show (s.net ++ [_]).length ≤ _
     rw [List.length_append,List.length_singleton]
     omega
 | .again,_ =>
   show (s.net ++ Vbahap.again s).length ≤ _
   have:=M3 g
   rw [List.length_append]
   omega
 | .calm,_ =>
   have:=(Bn (k:=0) (fC g (mJ g)) (Bj _)).2
   show (drain _ _ 0).1.net.length ≤ _
   rw [this]
   exact Nat.zero_le _
 | .view r no,_ =>
   show (match viewOf s r no with
    | none => (s,[-4])
    | some w => (s,[0,(w.seen : Int),(w.status : Int),if w.cancel = true then 1 else 0,(w.f : Int),(w.n : Int)]) : State × List Int).1.net.length ≤ _
   split <;> exact Nat.le_add_right _ _
 | .truth r no,_ =>
   show (match truthOf s r no with
    | none => (s,[-4])
    | some t => (s,[0,(t.version : Int),(t.status : Int),(t.acked : Int)]) : State × List Int).1.net.length ≤ _
   split <;> exact Nat.le_add_right _ _
 | .seats f,_ =>
   show (onFlight s f fun x => (s,_)).1.net.length ≤ _
   unfold onFlight
   split <;> exact Nat.le_add_right _ _
 | .line f,_ =>
   show (onFlight s f fun x => (s,_)).1.net.length ≤ _
   unfold onFlight
   split <;> exact Nat.le_add_right _ _
 | .net,_ => exact Nat.le_add_right _ _
 | .text k,_ =>
   show (onMsg s k fun m => (s,_)).1.net.length ≤ _
   unfold onMsg
   split <;> exact Nat.le_add_right _ _
 | .read b,_ =>
   show (match readMsg b with
    | none => (s,[-8])
    | some m => (s,0 :: Vbahap.ints (numbersOf m)) : State × List Int).1.net.length ≤ _
   split <;> exact Nat.le_add_right _ _
 | .settled,_ => exact Nat.le_add_right _ _
end Sh
end
section
namespace Sh
open Vbahap
theorem nZ (n : Nat) : decimal n = (Nat.toDigits 10 n).map Char.toNat:=by
 unfold decimal
 rw [Nat.toString_eq_repr,Nat.toList_repr]
theorem NH : ∀ d,d < 10 → (Nat.digitChar d).toNat = 48 + d:=by decide
theorem NJ {n : Nat} (h : n < 10) : decimal n = [48 + n]:=by
 rw [nZ,Nat.toDigits_of_lt_base h,List.map_cons,List.map_nil,NH n h]
theorem NK {n : Nat} (h : 10 ≤ n) : decimal n = decimal (n / 10) ++ [48 + n % 10]:=by
 rw [nZ,nZ,Nat.toDigits_of_base_le (by decide) h,List.map_append,List.map_cons,List.map_nil,NH _ (Nat.mod_lt _ (by decide))]
def cC (n c : Nat) : Nat:=10 * n + (c - 48)
structure SF (n : Nat) (b : Bytes) : Prop where
 ne : b ≠ []
 all : b.all digit = true
 hd : b.head? = some 48 → b.length = 1
 val : b.foldl cC 0 = n
 len : ∀ k,1 ≤ k → n < 10 ^ k → b.length ≤ k
theorem NM : ∀ (k n : Nat),n < k → SF n (decimal n)
 | 0,n,h => absurd h (Nat.not_lt_zero _)
 | k + 1,n,h => by
   by_cases h10 : n < 10
   ·rw [NJ h10]
    refine ⟨by simp,?_,fun _ => rfl,?_,fun k hk _ => hk⟩
    ·simp [digit]; omega
    ·simp [cC]
   ·have h10 : 10 ≤ n:=Nat.le_of_not_lt h10
    have ih:=NM k (n / 10) (by omega)
    rw [NK h10]
    refine ⟨by simp,?_,?_,?_,?_⟩
    ·rw [List.all_append,ih.all]
     simp [digit]; omega
    ·intro e
     have e' : (decimal (n / 10)).head? = some 48:=by
      cases q : decimal (n / 10) with
      | nil => exact absurd q ih.ne
      | cons a l => rw [q] at e; simpa using e
     have l1:=ih.hd e'
     exfalso
     cases q : decimal (n / 10) with
     | nil => exact absurd q ih.ne
     | cons a l =>
       rw [q] at e' l1
       have la : l = []:=by simpa using l1
       have ea : a = 48:=by simpa using e'
       have v:=ih.val
       rw [q,la,ea] at v
       simp [cC] at v
       omega
    ·rw [List.foldl_append,ih.val]
     simp [cC]
     omega
    ·intro j hj hn
     rw [List.length_append,List.length_singleton]
     match j,hj,hn with
     | 1,_,hn => exact absurd hn (by omega)
     | j + 2,_,hn =>
       have:=ih.len (j + 1) (by omega) (by
        rw [Nat.pow_succ] at hn
        omega)
       omega
theorem qE (n : Nat) : SF n (decimal n):=NM (n + 1) n (Nat.lt_succ_self n)
theorem NG {c : Nat} : digit c = true ↔ 48 ≤ c ∧ c ≤ 57:=by
 unfold digit
 simp
theorem NN : ∀ (k : Nat) (b : Bytes),b.length ≤ k → b ≠ [] → b.all digit = true → (b.head? = some 48 → b.length = 1) → decimal (b.foldl cC 0) = b
 | 0,b,h,ne,_,_ => absurd (List.length_eq_zero_iff.mp (Nat.le_zero.mp h)) ne
 | k + 1,b,h,ne,al,hd => by
   obtain ⟨i,c,rfl⟩ : ∃ i c,b = i ++ [c]:=⟨b.dropLast,b.getLast ne,(List.dropLast_concat_getLast ne).symm⟩
   have hc : 48 ≤ c ∧ c ≤ 57:=NG.mp (List.all_eq_true.mp al c (by simp))
   by_cases hi : i = []
   ·subst hi
    show decimal (cC 0 c) = [c]
    unfold cC
    rw [NJ (by omega)]
    congr 1
    omega
   ·have al' : i.all digit = true:=by
     rw [List.all_append,Bool.and_eq_true] at al
     exact al.1
    have hl : i.length ≤ k:=by
     rw [List.length_append,List.length_singleton] at h
     omega
    have h48 : i.head? ≠ some 48:=fun e => by
     have:=hd (by cases i with
      | nil => exact absurd rfl hi
      | cons a l => simpa using e)
     rw [List.length_append,List.length_singleton] at this
     have l0 : i.length = 0:=by omega
     exact hi (List.length_eq_zero_iff.mp l0)
    have ih:=NN k i hl hi al' (fun e => absurd e h48)
    rw [List.foldl_append]
    show decimal (cC (i.foldl cC 0) c) = i ++ [c]
    have pos : 1 ≤ i.foldl cC 0:=by
     rcases Nat.eq_zero_or_pos (i.foldl cC 0) with z | z
     ·rw [z] at ih
      rw [← ih] at h48
      exact absurd (by decide) h48
     ·exact z
    generalize hN : i.foldl cC 0 = N at pos ih ⊢
    have e1 : cC N c / 10 = N:=by unfold cC; omega
    have e2 : 48 + cC N c % 10 = c:=by unfold cC; omega
    rw [NK (by unfold cC; omega),e1,e2,ih]
def valZ (b : List Int) : Int:=b.foldl (fun n c => n * 10 + c - 48) 0
def zs (b : Bytes) : List Int:=b.map Int.ofNat
theorem F6 : ∀ (b : Bytes) (n : Nat),b.all digit = true → (zs b).foldl (fun n c => n * 10 + c - 48) (n : Int) = ((b.foldl cC n : Nat) : Int)
 | [],_,_ => rfl
 | c :: b,n,h => by
   rw [List.all_cons,Bool.and_eq_true] at h
   have hc:=NG.mp h.1
   show (zs b).foldl _ ((n : Int) * 10 + (c : Int) - 48) = _
   have e : (n : Int) * 10 + (c : Int) - 48 = ((cC n c : Nat) : Int):=by unfold cC; omega
   rw [e,F6 b _ h.2]
   rfl
theorem F7 {b : Bytes} (h : b.all digit = true) : valZ (zs b) = ((b.foldl cC 0 : Nat) : Int):=F6 b 0 h
theorem vR (lo hi : Nat) (b : Bytes) : numberOf lo hi b = if b = [] ∨ 9 < b.length ∨ (b.all digit) = false ∨ (b.head? = some 48 ∧ 1 < b.length) then none else if lo ≤ b.foldl cC 0 ∧ b.foldl cC 0 ≤ hi then some (b.foldl cC 0) else none:=rfl
theorem aaL {lo hi : Nat} (hh : hi < 10 ^ 9) (b : Bytes) : (numberOf lo hi b).map Int.ofNat =
 if valZ (zs b) < lo ∨ (hi : Int) < valZ (zs b) then none else if zs (decimal (valZ (zs b)).toNat) = zs b then some (valZ (zs b)) else none:=by
 have inj : ∀ {x y : Bytes},zs x = zs y → x = y:=fun {x y} e => by
  have:=congrArg (List.map Int.toNat) e
  unfold zs at this
  rw [List.map_map,List.map_map] at this
  have id1 : (Int.toNat ∘ Int.ofNat) = id:=by funext n; rfl
  rwa [id1,List.map_id,List.map_id] at this
 by_cases hr : valZ (zs b) < lo ∨ (hi : Int) < valZ (zs b)
 ·rw [if_pos hr,vR]
  split
  ·rfl
  ·rename_i hc
   have al : b.all digit = true:=by
    cases q : b.all digit with
    | true => rfl
    | false => exact absurd (Or.inr (Or.inr (Or.inl q))) hc
   rw [F7 al] at hr
   rw [if_neg (by omega)]
   rfl
 ·rw [if_neg hr]
  by_cases he : zs (decimal (valZ (zs b)).toNat) = zs b
  ·rw [if_pos he]
   have eb:=inj he
   have D:=qE (valZ (zs b)).toNat
   rw [eb] at D
   have nn : ((valZ (zs b)).toNat : Int) = valZ (zs b):=by omega
   have l9 : b.length ≤ 9:=D.len 9 (by decide) (by omega)
   rw [vR,if_neg (by
    rintro (q | q | q | ⟨q,q'⟩)
    ·exact D.ne q
    ·omega
    ·rw [D.all] at q; cases q
    ·have:=D.hd q; omega),D.val,if_pos (by omega)]
   show some ((valZ (zs b)).toNat : Int) = _
   rw [nn]
  ·rw [if_neg he,vR]
   split
   ·rfl
   ·rename_i hc
    have al : b.all digit = true:=by
     cases q : b.all digit with
     | true => rfl
     | false => exact absurd (Or.inr (Or.inr (Or.inl q))) hc
    exfalso
    apply he
    rw [F7 al,Int.toNat_natCast,NN b.length b (Nat.le_refl _) (fun q => hc (Or.inl q)) al (fun q => by
     have h1 : ¬ (1 < b.length):=fun z => hc (Or.inr (Or.inr (Or.inr ⟨q,z⟩)))
     have h2 : b.length ≠ 0:=fun z => hc (Or.inl (List.length_eq_zero_iff.mp z))
     omega)]
theorem lY : ∀ b : Bytes,pieces b ≠ []
 | [] => by unfold pieces; simp
 | c :: r => by
   have ih:=lY r
   unfold pieces
   split
   ·simp
   ·split <;> simp
def glue (cur : Bytes) : List Bytes → List Bytes
 | [] => [cur]
 | p :: l => (cur ++ p) :: l
theorem acw (cur : Bytes) (r : Bytes) : glue cur (pieces (32 :: r)) = cur :: glue [] (pieces r):=by
 have ih:=lY r
 cases q : pieces r with
 | nil => exact absurd q ih
 | cons p l =>
   have e : pieces (32 :: r) = [] :: p :: l:=by
    show (match pieces r with | [] => [[32]] | p :: l => if (32 : Nat) = 32 then [] :: p :: l else (32 :: p) :: l) = _
    rw [q]
    rfl
   rw [e]
   show (cur ++ []) :: p :: l = cur :: ([] ++ p) :: l
   rw [List.append_nil,List.nil_append]
theorem acv (cur : Bytes) {c : Nat} (hc : c ≠ 32) (r : Bytes) : glue cur (pieces (c :: r)) = glue (cur ++ [c]) (pieces r):=by
 have ih:=lY r
 cases q : pieces r with
 | nil => exact absurd q ih
 | cons p l =>
   have e : pieces (c :: r) = (c :: p) :: l:=by
    show (match pieces r with | [] => [[c]] | p :: l => if c = 32 then [] :: p :: l else (c :: p) :: l) = _
    rw [q]
    show (if c = 32 then [] :: p :: l else (c :: p) :: l) = _
    rw [if_neg hc]
   rw [e]
   show (cur ++ c :: p) :: l = ((cur ++ [c]) ++ p) :: l
   rw [List.append_assoc]
   rfl
theorem acu (b : Bytes) : glue [] (pieces b) = pieces b:=by
 cases q : pieces b with
 | nil => exact absurd q (lY b)
 | cons p l => rfl
def fm : Nat → Bytes → Option Nat
 | 0,b => numberOf 0 3 b
 | 1,b => numberOf 1 999 b
 | 2,b => numberOf 1 9999 b
 | 3,b => numberOf 1 9 b
 | 4,b => numberOf 1 999999 b
 | _,b => statusOf b
def readAll : List (Nat × Bytes) → Option (List Nat)
 | [] => some []
 | (k,b) :: l => match fm k b with
   | none => none
   | some n => match readAll l with
     | none => none
     | some ns => some (n :: ns)
def cP : List (Bytes × List Nat):=[(ASK,[0,1,2,3]),(CAN,[0,1]),(ST_,[0,1,4,5]),(ACK,[0,1,4])]
def c6 (ps : List Bytes) : Nat → List (Bytes × List Nat) → Option (List Nat)
 | _,[] => none
 | k,(h,ks) :: l => if ps.head? = some h ∧ ks.length + 1 = ps.length then (readAll (ks.zip ps.tail)).map (k :: ·) else c6 ps (k + 1) l
theorem W7 (b : Bytes) : (readMsg b).map numbersOf = c6 (pieces b) 0 cP:=by
 unfold readMsg
 generalize pieces b = ps
 match ps with
 | [] => rfl
 | [k] => simp [c6,cP]
 | [k,r] => simp [c6,cP]
 | [k,r,no] =>
   by_cases h : k = CAN
   ·subst h
    have e1 : ¬ (CAN = ASK):=by decide
    simp only [c6,cP,List.head?_cons,List.length_cons,List.length_nil,Option.some.injEq,e1,false_and,if_false,List.tail_cons,List.zip_cons_cons,List.zip_nil_left,readAll,fm,if_true,true_and,MOSTNO]
    cases numberOf 0 3 r <;> cases numberOf 1 999 no <;> rfl
   ·have e2 : ¬ (some k = some CAN ∧ ([0,1] : List Nat).length + 1 = [k,r,no].length):=fun q => h (Option.some.inj q.1)
    simp [c6,cP,h]
 | [k,r,no,v] =>
   by_cases h : k = ACK
   ·subst h
    have e1 : ¬ (ACK = ASK):=by decide
    have e2 : ¬ (ACK = CAN):=by decide
    have e3 : ¬ (ACK = ST_):=by decide
    simp only [c6,cP,List.head?_cons,List.length_cons,List.length_nil,Option.some.injEq,e1,e2,e3,false_and,if_false,List.tail_cons,List.zip_cons_cons,List.zip_nil_left,readAll,fm,if_true,true_and,MOSTNO,MOSTV]
    cases numberOf 0 3 r <;> cases numberOf 1 999 no <;> cases numberOf 1 999999 v <;> rfl
   ·simp [c6,cP,h]
 | [k,r,no,x,y] =>
   by_cases h : k = ASK
   ·subst h
    simp only [c6,cP,List.head?_cons,List.length_cons,List.length_nil,Option.some.injEq,List.tail_cons,List.zip_cons_cons,List.zip_nil_left,readAll,fm,if_true,true_and,MOSTNO,MOSTV]
    cases numberOf 0 3 r <;> cases numberOf 1 999 no <;> cases numberOf 1 9999 x <;> cases numberOf 1 9 y <;> rfl
   ·by_cases h2 : k = ST_
    ·subst h2
     have e1 : ¬ (ST_ = ASK):=by decide
     have e2 : ¬ (ST_ = CAN):=by decide
     simp only [c6,cP,List.head?_cons,List.length_cons,List.length_nil,Option.some.injEq,e1,e2,false_and,if_false,List.tail_cons,List.zip_cons_cons,List.zip_nil_left,readAll,fm,if_true,true_and,MOSTNO,MOSTV]
     cases numberOf 0 3 r <;> cases numberOf 1 999 no <;> cases numberOf 1 999999 x <;> cases statusOf y <;> rfl
    ·have z : (match numberOf 0 3 r,numberOf 1 MOSTNO no with
      | some r,some no => if k = ASK then (match numberOf 1 9999 x,numberOf 1 9 y with
       | some f,some n => some (Msg.ask r no f n)
       | _,_ => none)
       else if k = ST_ then (match numberOf 1 MOSTV x,statusOf y with
        | some v,some s => some (.st r no v s)
        | _,_ => none)
       else none
      | _,_ => none) = none:=by
      split
      ·rw [if_neg h,if_neg h2]
      ·rfl
     show Option.map numbersOf (match numberOf 0 3 r,numberOf 1 MOSTNO no with
      | some r,some no => if k = ASK then (match numberOf 1 9999 x,numberOf 1 9 y with
       | some f,some n => some (Msg.ask r no f n)
       | _,_ => none)
       else if k = ST_ then (match numberOf 1 MOSTV x,statusOf y with
        | some v,some s => some (.st r no v s)
        | _,_ => none)
       else none
      | _,_ => none) = _
     rw [z]
     simp [c6,cP,h,h2]
 | a :: b :: c :: d :: e :: f :: l => simp [c6,cP]
def gA : List Bytes:=[[72],[87],[82],[67],[88]]
theorem Ue (b : Bytes) : statusOf b = (gA.findIdx? fun x => x == b).map (· + 1):=by
 unfold statusOf
 match b with
 | [] => rfl
 | [c] =>
   by_cases h1 : c = 72
   ·subst h1; rfl
   by_cases h2 : c = 87
   ·subst h2; rfl
   by_cases h3 : c = 82
   ·subst h3; rfl
   by_cases h4 : c = 67
   ·subst h4; rfl
   by_cases h5 : c = 88
   ·subst h5; rfl
   have g : ∀ d,¬ c = d → (d == c) = false:=fun d h => by simp; exact fun e => h e.symm
   have g' : ∀ d,¬ c = d → (([d] : Bytes) == [c]) = false:=fun d h => by simp; exact fun e => h e.symm
   simp [letters,gA,List.find?,List.findIdx?_cons,g _ h1,g _ h2,g _ h3,g _ h4,g _ h5,g' _ h1,g' _ h2,g' _ h3,g' _ h4,g' _ h5]
 | a :: b :: l => simp [gA,List.findIdx?_cons]
end Sh
end
section
namespace Sh
open Vbahap
def kx : List Nat:=[2,2,1,3,2,1,1,1,0,0,2,2,1,1,0,1,0,0]
theorem WJ {p : Int} {n k : Nat} (h : PyVbahap.shape p = some (n,k)) : ∃ q : Nat,p = (q : Int) ∧ q < 18 ∧ kx[q]? = some n ∧ k = if q = 16 then 1 else 0:=by
 have c : p = 0 ∨ p = 1 ∨ p = 2 ∨ p = 3 ∨ p = 4 ∨ p = 5 ∨ p = 6 ∨ p = 7 ∨ p = 8 ∨ p = 9 ∨ p = 10 ∨ p = 11 ∨ p = 12 ∨ p = 13 ∨ p = 14 ∨ p = 15 ∨ p = 16 ∨ p = 17:=by
  apply Classical.byContradiction
  intro hn
  simp only [not_or] at hn
  obtain ⟨h0,h1,h2,h3,h4,h5,h6,h7,h8,h9,h10,h11,h12,h13,h14,h15,h16,h17⟩:=hn
  unfold PyVbahap.shape at h
  rw [if_neg h0,if_neg h1,if_neg h2,if_neg h3,if_neg h4,if_neg h5,if_neg h6,if_neg h7,if_neg h8,if_neg h9,if_neg h10,if_neg h11,if_neg h12,if_neg h13,if_neg h14,if_neg h15,if_neg h16,if_neg h17] at h
  cases h
 rcases c with e | e | e | e | e | e | e | e | e | e | e | e | e | e | e | e | e | e
 all_goals (subst e; have h':=Option.some.inj h; obtain ⟨h1,h2⟩:=Prod.mk.inj h'; subst h1 h2)
 ·exact ⟨0,rfl,by decide,rfl,rfl⟩
 ·exact ⟨1,rfl,by decide,rfl,rfl⟩
 ·exact ⟨2,rfl,by decide,rfl,rfl⟩
 ·exact ⟨3,rfl,by decide,rfl,rfl⟩
 ·exact ⟨4,rfl,by decide,rfl,rfl⟩
 ·exact ⟨5,rfl,by decide,rfl,rfl⟩
 ·exact ⟨6,rfl,by decide,rfl,rfl⟩
 ·exact ⟨7,rfl,by decide,rfl,rfl⟩
 ·exact ⟨8,rfl,by decide,rfl,rfl⟩
 ·exact ⟨9,rfl,by decide,rfl,rfl⟩
 ·exact ⟨10,rfl,by decide,rfl,rfl⟩
 ·exact ⟨11,rfl,by decide,rfl,rfl⟩
 ·exact ⟨12,rfl,by decide,rfl,rfl⟩
 ·exact ⟨13,rfl,by decide,rfl,rfl⟩
 ·exact ⟨14,rfl,by decide,rfl,rfl⟩
 ·exact ⟨15,rfl,by decide,rfl,rfl⟩
 ·exact ⟨16,rfl,by decide,rfl,rfl⟩
 ·exact ⟨17,rfl,by decide,rfl,rfl⟩
def rowsOf (q : Nat) (l : List Int) : List (List Int):=if q = 16 then [[16],l] else [(q : Int) :: l]
structure Cut (q : Nat) (r l t : List Int) : Prop where
 lt : q < 18
 plain : q ≠ 16 → ∃ n,kx[q]? = some n ∧ n ≤ r.length ∧ l = r.take n ∧ t = r.drop n
 text : q = 16 → ∃ (n : Nat) (r' : List Int),r = (n : Int) :: r' ∧ n ≤ r'.length ∧ l = r'.take n ∧ t = r'.drop n
theorem adD {f : Nat} {p : Int} {r : List Int} {cs : List (List (List Int))} (h : PyFlat.calls PyVbahap.shape f (p :: r) = some cs) :
 ∃ (q : Nat) (l t : List Int) (cs' : List (List (List Int))) (f' : Nat),p = (q : Int) ∧ Cut q r l t ∧ cs = rowsOf q l :: cs' ∧ PyFlat.calls PyVbahap.shape f' t = some cs':=by
 cases f with
 | zero => cases h
 | succ f =>
   unfold PyFlat.calls at h
   cases hc : PyFlat.call PyVbahap.shape (p :: r) with
   | none => rw [hc] at h; cases h
   | some ct =>
     obtain ⟨c,t⟩:=ct
     rw [hc] at h
     simp only at h
     cases hr : PyFlat.calls PyVbahap.shape f t with
     | none => rw [hr] at h; cases h
     | some cs' =>
       rw [hr] at h
       simp only [Option.some.injEq] at h
       unfold PyFlat.call at hc
       simp only at hc
       cases hs : PyVbahap.shape p with
       | none => rw [hs] at hc; cases hc
       | some nk =>
         obtain ⟨n,k⟩:=nk
         rw [hs] at hc
         simp only at hc
         obtain ⟨q,ep,hq,hn,hk⟩:=WJ hs
         by_cases hlen : r.length < n
         ·rw [if_pos hlen] at hc; cases hc
         ·rw [if_neg hlen] at hc
          by_cases h16 : q = 16
          ·rw [if_pos h16] at hk
           subst hk
           subst h16
           have n0 : n = 0:=(Option.some.inj hn).symm
           subst n0
           rw [List.drop_zero] at hc
           cases hrow : PyFlat.row r with
           | none =>
             have : PyFlat.rows 1 r = none:=by unfold PyFlat.rows; rw [hrow]
             rw [this] at hc; cases hc
           | some xs =>
             obtain ⟨x,s⟩:=xs
             have e1 : PyFlat.rows 1 r = some ([x],s):=by unfold PyFlat.rows; rw [hrow]; rfl
             rw [e1] at hc
             obtain ⟨e2,e3⟩:=Prod.mk.inj (Option.some.inj hc)
             subst e2 e3
             unfold PyFlat.row at hrow
             cases r with
             | nil => cases hrow
             | cons z r' =>
               simp only at hrow
               split at hrow
               ·rename_i hz
                obtain ⟨e4,e5⟩:=Prod.mk.inj (Option.some.inj hrow)
                refine ⟨16,x,s,cs',f,ep,⟨hq,fun q => absurd rfl q,fun _ => ⟨z.toNat,r',by rw [Int.toNat_of_nonneg hz.1],hz.2,e4.symm,e5.symm⟩⟩,?_,hr⟩
                rw [← h,List.take_zero,ep]
                rfl
               ·cases hrow
          ·rw [if_neg h16] at hk
           subst hk
           have e1 : PyFlat.rows 0 (r.drop n) = some ([],r.drop n):=rfl
           rw [e1] at hc
           obtain ⟨e2,e3⟩:=Prod.mk.inj (Option.some.inj hc)
           refine ⟨q,r.take n,t,cs',f,ep,⟨hq,fun _ => ⟨n,hn,by omega,rfl,e3.symm⟩,fun z => absurd z h16⟩,?_,hr⟩
           rw [← h,← e2,ep]
           unfold rowsOf
           rw [if_neg h16]
theorem adB {f : Nat} {cs : List (List (List Int))} (h : PyFlat.calls PyVbahap.shape f [] = some cs) : cs = []:=by
 unfold PyFlat.calls at h
 cases f <;> exact (Option.some.inj h).symm
theorem nat18 {P : Nat → Prop} (h0 : P 0) (h1 : P 1) (h2 : P 2) (h3 : P 3) (h4 : P 4) (h5 : P 5) (h6 : P 6) (h7 : P 7) (h8 : P 8) (h9 : P 9) (h10 : P 10) (h11 : P 11) (h12 : P 12) (h13 : P 13) (h14 : P 14) (h15 : P 15) (h16 : P 16) (h17 : P 17) (hs : ∀ n,P (n + 18)) (n : Nat) : P n:=match n with
 | 0 => h0
 | 1 => h1
 | 2 => h2
 | 3 => h3
 | 4 => h4
 | 5 => h5
 | 6 => h6
 | 7 => h7
 | 8 => h8
 | 9 => h9
 | 10 => h10
 | 11 => h11
 | 12 => h12
 | 13 => h13
 | 14 => h14
 | 15 => h15
 | 16 => h16
 | 17 => h17
 | n + 18 => hs n
theorem SJ (c : List (List Int)) : PyVbahap.whole c = c:=by
 cases c with
 | nil => rfl
 | cons a r =>
   cases a with
   | nil => cases r with
     | nil => rfl
     | cons b r => cases r <;> rfl
   | cons x l =>
     cases x with
     | negSucc n => cases r with
       | nil => rfl
       | cons b r => cases r <;> rfl
     | ofNat n =>
       cases l with
       | nil => cases r with
         | nil => exact nat18 (P:=fun n => PyVbahap.whole ([[Int.ofNat n]]) = [[Int.ofNat n]]) rfl rfl rfl rfl rfl rfl rfl rfl rfl rfl rfl rfl rfl rfl rfl rfl rfl rfl (fun _ => rfl) n
         | cons b r => cases r with
           | nil => exact nat18 (P:=fun n => PyVbahap.whole ([[Int.ofNat n],b]) = [[Int.ofNat n],b]) rfl rfl rfl rfl rfl rfl rfl rfl rfl rfl rfl rfl rfl rfl rfl rfl rfl rfl (fun _ => rfl) n
           | cons d r => exact nat18 (P:=fun n => PyVbahap.whole (([Int.ofNat n]) :: b :: d :: r) = ([Int.ofNat n]) :: b :: d :: r) rfl rfl rfl rfl rfl rfl rfl rfl rfl rfl rfl rfl rfl rfl rfl rfl rfl rfl (fun _ => rfl) n
       | cons y l =>
         cases l with
         | nil => cases r with
           | nil => exact nat18 (P:=fun n => PyVbahap.whole ([[Int.ofNat n,y]]) = [[Int.ofNat n,y]]) rfl rfl rfl rfl rfl rfl rfl rfl rfl rfl rfl rfl rfl rfl rfl rfl rfl rfl (fun _ => rfl) n
           | cons b r => cases r with
             | nil => exact nat18 (P:=fun n => PyVbahap.whole ([[Int.ofNat n,y],b]) = [[Int.ofNat n,y],b]) rfl rfl rfl rfl rfl rfl rfl rfl rfl rfl rfl rfl rfl rfl rfl rfl rfl rfl (fun _ => rfl) n
             | cons d r => exact nat18 (P:=fun n => PyVbahap.whole (([Int.ofNat n,y]) :: b :: d :: r) = ([Int.ofNat n,y]) :: b :: d :: r) rfl rfl rfl rfl rfl rfl rfl rfl rfl rfl rfl rfl rfl rfl rfl rfl rfl rfl (fun _ => rfl) n
         | cons z l =>
           cases l with
           | nil => cases r with
             | nil => exact nat18 (P:=fun n => PyVbahap.whole ([[Int.ofNat n,y,z]]) = [[Int.ofNat n,y,z]]) rfl rfl rfl rfl rfl rfl rfl rfl rfl rfl rfl rfl rfl rfl rfl rfl rfl rfl (fun _ => rfl) n
             | cons b r => cases r with
               | nil => exact nat18 (P:=fun n => PyVbahap.whole ([[Int.ofNat n,y,z],b]) = [[Int.ofNat n,y,z],b]) rfl rfl rfl rfl rfl rfl rfl rfl rfl rfl rfl rfl rfl rfl rfl rfl rfl rfl (fun _ => rfl) n
               | cons d r => exact nat18 (P:=fun n => PyVbahap.whole (([Int.ofNat n,y,z]) :: b :: d :: r) = ([Int.ofNat n,y,z]) :: b :: d :: r) rfl rfl rfl rfl rfl rfl rfl rfl rfl rfl rfl rfl rfl rfl rfl rfl rfl rfl (fun _ => rfl) n
           | cons u l =>
             cases l with
             | nil => cases r with
               | nil => exact nat18 (P:=fun n => PyVbahap.whole ([[Int.ofNat n,y,z,u]]) = [[Int.ofNat n,y,z,u]]) rfl rfl rfl rfl rfl rfl rfl rfl rfl rfl rfl rfl rfl rfl rfl rfl rfl rfl (fun _ => rfl) n
               | cons b r => cases r with
                 | nil => exact nat18 (P:=fun n => PyVbahap.whole ([[Int.ofNat n,y,z,u],b]) = [[Int.ofNat n,y,z,u],b]) rfl rfl rfl rfl rfl rfl rfl rfl rfl rfl rfl rfl rfl rfl rfl rfl rfl rfl (fun _ => rfl) n
                 | cons d r => exact nat18 (P:=fun n => PyVbahap.whole (([Int.ofNat n,y,z,u]) :: b :: d :: r) = ([Int.ofNat n,y,z,u]) :: b :: d :: r) rfl rfl rfl rfl rfl rfl rfl rfl rfl rfl rfl rfl rfl rfl rfl rfl rfl rfl (fun _ => rfl) n
             | cons v l => cases r with
               | nil => exact nat18 (P:=fun n => PyVbahap.whole ([Int.ofNat n :: y :: z :: u :: v :: l]) = [Int.ofNat n :: y :: z :: u :: v :: l]) rfl rfl rfl rfl rfl rfl rfl rfl rfl rfl rfl rfl rfl rfl rfl rfl rfl rfl (fun _ => rfl) n
               | cons b r => cases r with
                 | nil => exact nat18 (P:=fun n => PyVbahap.whole ([Int.ofNat n :: y :: z :: u :: v :: l,b]) = [Int.ofNat n :: y :: z :: u :: v :: l,b]) rfl rfl rfl rfl rfl rfl rfl rfl rfl rfl rfl rfl rfl rfl rfl rfl rfl rfl (fun _ => rfl) n
                 | cons d r => exact nat18 (P:=fun n => PyVbahap.whole ((Int.ofNat n :: y :: z :: u :: v :: l) :: b :: d :: r) = (Int.ofNat n :: y :: z :: u :: v :: l) :: b :: d :: r) rfl rfl rfl rfl rfl rfl rfl rfl rfl rfl rfl rfl rfl rfl rfl rfl rfl rfl (fun _ => rfl) n
theorem adC {l : List Int} : PyVbahap.calls l = PyFlat.calls PyVbahap.shape l.length l:=by
 unfold PyVbahap.calls
 split
 ·rename_i h; rw [h]
 ·rename_i cs h
  rw [h]
  have : (PyVbahap.whole : List (List Int) → List (List Int)) = id:=funext SJ
  rw [this,List.map_id]
theorem q18 {q : Nat} (h : q < 18) : q = 0 ∨ q = 1 ∨ q = 2 ∨ q = 3 ∨ q = 4 ∨ q = 5 ∨ q = 6 ∨ q = 7 ∨ q = 8 ∨ q = 9 ∨ q = 10 ∨ q = 11 ∨ q = 12 ∨ q = 13 ∨ q = 14 ∨ q = 15 ∨ q = 16 ∨ q = 17:=by omega
def eu : List (List (Int × Int)):=[[(1,9999),(0,999)],[(1,9999),(0,999)],[(1,9999)],[(0,3),(1,9999),(1,9)],[(0,3),(1,999)],[(0,999999)],[(0,999999)],[(0,999999)],[],[],
 [(0,3),(1,999)],[(0,3),(1,999)],[(1,9999)],[(1,9999)],[],[(0,999999)],[],[]]
def d6 (x : Int × (Int × Int)) : Bool:=decide (x.2.1 ≤ x.1) && decide (x.1 ≤ x.2.2)
def inR (q : Nat) (l : List Int) : Bool:=if q = 16 then isText l else (l.zip (eu.getD q [])).all d6
def cG (q : Nat) (l : List Int) : Call:=match q,l with
 | 0,[f,cap] => .flight f.toNat cap.toNat
 | 1,[f,cap] => .cap f.toNat cap.toNat
 | 2,[f] => .shut f.toNat
 | 3,[r,f,n] => .sell r.toNat f.toNat n.toNat
 | 4,[r,no] => .giveUp r.toNat no.toNat
 | 5,[p] => .deliver p.toNat
 | 6,[p] => .lose p.toNat
 | 7,[p] => .double p.toNat
 | 8,_ => .again
 | 9,_ => .calm
 | 10,[r,no] => .view r.toNat no.toNat
 | 11,[r,no] => .truth r.toNat no.toNat
 | 12,[f] => .seats f.toNat
 | 13,[f] => .line f.toNat
 | 14,_ => .net
 | 15,[p] => .text p.toNat
 | 16,b => .read (b.map Int.toNat)
 | _,_ => .settled
def Fits (q : Nat) (l : List Int) : Prop:=q < 18 ∧ (q ≠ 16 → kx[q]? = some l.length)
theorem Cut.fits {q : Nat} {r l t : List Int} (c : Cut q r l t) : Fits q l:=⟨c.lt,fun h => by
 obtain ⟨n,h1,h2,h3,_⟩:=c.plain h
 rw [h1,h3,List.length_take,Nat.min_eq_left h2]⟩
theorem rng1 (x : Bool) (c : Call) : ranged x c = if (x && true) = true then .ok c else .error (-2):=by
 rw [Bool.and_true]
 rfl
theorem rng2 (x y : Bool) (c : Call) : ranged (x && y) c = if (x && (y && true)) = true then .ok c else .error (-2):=by
 rw [Bool.and_true]
 rfl
theorem rng3 (x y z : Bool) (c : Call) : ranged (x && (y && z)) c = if (x && (y && (z && true))) = true then .ok c else .error (-2):=by
 rw [Bool.and_true]
 rfl
theorem adl {q : Nat} {l : List Int} (h : Fits q l) : decode (rowsOf q l) = if inR q l = true then .ok (cG q l) else .error (-2):=by
 obtain ⟨h1,h2⟩:=h
 have c:=q18 h1
 rcases c with e | e | e | e | e | e | e | e | e | e | e | e | e | e | e | e | e | e <;> subst e
 case inr.inr.inr.inr.inr.inr.inr.inr.inr.inr.inr.inr.inr.inr.inr.inr.inl =>
  show ranged (isText l) (.read (l.map Int.toNat)) = _
  rfl
 all_goals
  have hl:=Option.some.inj (h2 (by decide))
  match l,hl with
  | [],hl => first | (exact absurd hl (by decide)) | rfl
  | [a],hl => first | (exact absurd hl (by show ¬ (_ = 1); decide)) | exact rng1 _ _
  | [a,b],hl => first | (exact absurd hl (by show ¬ (_ = 2); decide)) | exact rng2 _ _ _
  | [a,b,c],hl => first | (exact absurd hl (by show ¬ (_ = 3); decide)) | exact rng3 _ _ _ _
  | a :: b :: c :: d :: e,hl => exact absurd hl (by simp only [List.length_cons]; omega)
theorem o3 {q : Nat} {l : List Int} (s : State) (h : Fits q l) : stepRows s (rowsOf q l) = if inR q l = true then step s (cG q l) else (s,[-2]):=by
 unfold stepRows
 rw [adl h]
 by_cases c : inR q l = true
 ·rw [if_pos c,if_pos c]
 ·rw [if_neg c,if_neg c]
theorem QD {q : Nat} {l : List Int} (h : Fits q l) (c : inR q l = true) : FP (cG q l):=by
 obtain ⟨h1,h2⟩:=h
 have k:=q18 h1
 rcases k with e | e | e | e | e | e | e | e | e | e | e | e | e | e | e | e | e | e <;> subst e
 case inr.inr.inr.inl =>
  have hl:=Option.some.inj (h2 (by decide))
  match l,hl,c with
  | [r,f,n],_,c =>
    have c' : (d6 (r,(0,3)) && (d6 (f,(1,9999)) && (d6 (n,(1,9)) && true))) = true:=c
    simp only [Bool.and_eq_true,d6,decide_eq_true_eq] at c'
    show r.toNat ≤ 3 ∧ (1 ≤ f.toNat ∧ f.toNat ≤ 9999) ∧ 1 ≤ n.toNat ∧ n.toNat ≤ 9
    omega
 case inr.inr.inr.inr.inr.inr.inr.inr.inr.inr.inr.inr.inr.inr.inr.inr.inl => exact trivial
 all_goals
  have hl:=Option.some.inj (h2 (by decide))
  match l,hl with
  | [],hl => first | (exact absurd hl (by decide)) | exact trivial
  | [a],hl => first | (exact absurd hl (by show ¬ (_ = 1); decide)) | exact trivial
  | [a,b],hl => first | (exact absurd hl (by show ¬ (_ = 2); decide)) | exact trivial
  | [a,b,c],hl => first | (exact absurd hl (by show ¬ (_ = 3); decide)) | exact trivial
  | a :: b :: c :: d :: e,hl => exact absurd hl (by simp only [List.length_cons]; omega)
theorem acr {q : Nat} {l : List Int} {s : State} (g : Good s) (h : Fits q l) : Good (stepRows s (rowsOf q l)).1:=by
 rw [o3 s h]
 by_cases c : inR q l = true
 ·rw [if_pos c]
  exact aco g (QD h c)
 ·rw [if_neg c]
  exact g
theorem aaX {q : Nat} {l : List Int} {s : State} (g : Good s) (h : Fits q l) : (stepRows s (rowsOf q l)).1.net.length ≤ s.net.length + 100:=by
 rw [o3 s h]
 by_cases c : inR q l = true
 ·rw [if_pos c]
  exact aaY g (QD h c)
 ·rw [if_neg c]
  show s.net.length ≤ _
  omega
def bx (p : List Msg) (s : State) : State:={ s with net:=p ++ s.net }
theorem lV (p : List Msg) (s : State) (l : List Msg) : send (bx p s) l = bx p (send s l):=by
 unfold send bx
 simp
theorem Gb (p : List Msg) (s : State) (t : Truth) (st : Nat) : turn (bx p s) t st = bx p (turn s t st):=lV p (setTruth s (turned t st)) _
theorem By (p : List Msg) : ∀ (l : List Truth) (s : State),clearAll (bx p s) l = bx p (clearAll s l)
 | [],_ => rfl
 | t :: l,s => by
   show (if t.n ≤ roomOn s t.f then clearAll (turn (bx p s) t 1) l else clearAll (bx p s) l) = bx p (if t.n ≤ roomOn s t.f then clearAll (turn s t 1) l else clearAll s l)
   split
   ·rw [Gb,By p l]
   ·exact By p l s
theorem W6 (p : List Msg) (s : State) (m : Msg) : receive (bx p s) m = bx p (receive s m):=by
 cases m with
 | ask r no f n =>
   show (match truthOf s r no with | some t => send (bx p s) [stMsg t] | none => newTruth (bx p s) r no f n (first s f n)) = bx p (match truthOf s r no with | some t => send s [stMsg t] | none => newTruth s r no f n (first s f n))
   cases truthOf s r no with
   | some t => exact lV _ _ _
   | none => exact lV p { s with truths:=s.truths ++ [_],seq:=s.seq + 1 } _
 | can r no =>
   show (match truthOf s r no with | none => newTruth (bx p s) r no 0 0 4 | some t => if final t.status = true then send (bx p s) [stMsg t] else clearFlight (turn (bx p s) t 4) t.f) = bx p (match truthOf s r no with | none => newTruth s r no 0 0 4 | some t => if final t.status = true then send s [stMsg t] else clearFlight (turn s t 4) t.f)
   cases truthOf s r no with
   | none => exact lV p { s with truths:=s.truths ++ [_],seq:=s.seq + 1 } _
   | some t =>
     show (if final t.status = true then send (bx p s) [stMsg t] else clearFlight (turn (bx p s) t 4) t.f) = bx p (if final t.status = true then send s [stMsg t] else clearFlight (turn s t 4) t.f)
     split
     ·exact lV _ _ _
     ·rw [Gb]
      exact By p _ _
 | st r no v status =>
   show (match viewOf s r no with | none => bx p s | some w => send { (bx p s) with views:=s.views.map fun x => if x.r = r ∧ x.no = no then (if w.seen < v then { w with seen:=v,status:=status } else w) else x } [.ack r no (if w.seen < v then { w with seen:=v,status:=status } else w : View).seen]) = bx p (match viewOf s r no with | none => s | some w => send { s with views:=s.views.map fun x => if x.r = r ∧ x.no = no then (if w.seen < v then { w with seen:=v,status:=status } else w) else x } [.ack r no (if w.seen < v then { w with seen:=v,status:=status } else w : View).seen])
   cases viewOf s r no with
   | none => rfl
   | some w => exact lV p { s with views:=_ } _
 | ack r no v =>
   show (match truthOf s r no with | none => bx p s | some t => setTruth (bx p s) { t with acked:=max t.acked (min v t.version) }) = bx p (match truthOf s r no with | none => s | some t => setTruth s { t with acked:=max t.acked (min v t.version) })
   cases truthOf s r no with
   | none => rfl
   | some t => rfl
def eE (s : State) (k : Nat) : State × Nat:=drain (bG s.net) s k
theorem ady {s : State} {m : Msg} {r : List Msg} {k : Nat} (g : Good (bx (m :: r) s)) : eE (bx (m :: r) s) k = eE (bx r (receive s m)) (k + 1) ∧ Good (bx r (receive s m)) ∧ bG (bx r (receive s m)).net + 1 ≤ bG (bx (m :: r) s).net:=by
 have ne : (bx (m :: r) s).net ≠ []:=by unfold bx; simp
 have ed : dr (bx (m :: r) s) = bx r (receive s m):=W6 r s m
 have gd:=A9 g
 have pd:=Bo g ne
 rw [ed] at gd pd
 refine ⟨?_,gd,pd⟩
 unfold eE
 obtain ⟨j,hj⟩ : ∃ j,bG (bx (m :: r) s).net = j + 1:=⟨bG (bx (m :: r) s).net - 1,by omega⟩
 rw [hj,qC ne,ed]
 exact Bm gd (by omega) (Nat.le_refl _)
theorem adz {s : State} {k : Nat} (h : s.net = []) : eE s k = (s,k):=ka h
theorem calm_eq {s : State} (g : Good s) : step s .calm = ((eE (send s (again s)) 0).1,[0,((eE (send s (again s)) 0).2 : Int)]):=by
 have g2 : Good (send s (again s)):=fC g (mJ g)
 show (let y:=drain (enough (send s (again s))) (send s (again s)) 0; (y.1,[0,(y.2 : Int)])) = _
 rw [Bm g2 (Bj _) (Nat.le_refl _)]
 rfl
end Sh
end
section
namespace Sh
open Vbahap
theorem vT {q : Nat} {l : List Int} (h : Fits q l) (r : inR q l = true) (h16 : q ≠ 16) : ∀ z ∈ l,0 ≤ z:=by
 obtain ⟨h1,h2⟩:=h
 have hl:=h2 h16
 unfold inR at r
 rw [if_neg h16] at r
 have key : ∀ (b : List (Int × Int)) (l : List Int),l.length = b.length → (∀ x ∈ b,0 ≤ x.1) → (l.zip b).all d6 = true → ∀ z ∈ l,0 ≤ z:=by
  intro b
  induction b with
  | nil =>
    intro l e _ _ z hz
    have : l = []:=List.length_eq_zero_iff.mp e
    rw [this] at hz
    cases hz
  | cons x b ih =>
    intro l e nn al z hz
    cases l with
    | nil => cases hz
    | cons y l =>
      rw [List.zip_cons_cons,List.all_cons,Bool.and_eq_true] at al
      rcases List.mem_cons.mp hz with q | q
      ·have:=al.1
       unfold d6 at this
       simp at this
       have:=nn x List.mem_cons_self
       rw [q]
       omega
      ·exact ih l (by simpa using e) (fun w hw => nn w (List.mem_cons_of_mem _ hw)) al.2 z q
 have c:=q18 h1
 refine key (eu.getD q []) l ?_ ?_ r
 ·rcases c with e | e | e | e | e | e | e | e | e | e | e | e | e | e | e | e | e | e <;> subst e <;> first | (exact absurd rfl h16) | (have:=Option.some.inj hl; rw [← this]; rfl)
 ·rcases c with e | e | e | e | e | e | e | e | e | e | e | e | e | e | e | e | e | e <;> subst e <;> first | (exact absurd rfl h16) | decide
theorem afP {q : Nat} {l : List Int} (h : Fits q l) (h16 : q ≠ 16) (hz : kx[q]? = some 0) : l = []:=by
 have:=(h.2 h16).symm.trans hz
 exact List.length_eq_zero_iff.mp (Option.some.inj this)
theorem lF {q : Nat} {l : List Int} (h : Fits q l) (r : inR q l = true) (h16 : q ≠ 16) (hz : kx[q]? = some 1) : ∃ a : Nat,l = [(a : Int)]:=by
 have nn:=vT h r h16
 have hl:=Option.some.inj ((h.2 h16).symm.trans hz)
 match l,hl,nn with
 | [a],_,nn =>
   have:=nn a (by simp)
   exact ⟨a.toNat,by rw [Int.toNat_of_nonneg this]⟩
theorem nX {q : Nat} {l : List Int} (h : Fits q l) (r : inR q l = true) (h16 : q ≠ 16) (hz : kx[q]? = some 2) : ∃ a b : Nat,l = [(a : Int),(b : Int)]:=by
 have nn:=vT h r h16
 have hl:=Option.some.inj ((h.2 h16).symm.trans hz)
 match l,hl,nn with
 | [a,b],_,nn =>
   have h1:=nn a (by simp)
   have h2:=nn b (by simp)
   exact ⟨a.toNat,b.toNat,by rw [Int.toNat_of_nonneg h1,Int.toNat_of_nonneg h2]⟩
theorem ac2 {q : Nat} {l : List Int} (h : Fits q l) (r : inR q l = true) (h16 : q ≠ 16) (hz : kx[q]? = some 3) : ∃ a b c : Nat,l = [(a : Int),(b : Int),(c : Int)]:=by
 have nn:=vT h r h16
 have hl:=Option.some.inj ((h.2 h16).symm.trans hz)
 match l,hl,nn with
 | [a,b,c],_,nn =>
   have h1:=nn a (by simp)
   have h2:=nn b (by simp)
   have h3:=nn c (by simp)
   exact ⟨a.toNat,b.toNat,c.toNat,by rw [Int.toNat_of_nonneg h1,Int.toNat_of_nonneg h2,Int.toNat_of_nonneg h3]⟩
theorem eV {n k : Nat} (hk : 1 ≤ k) (h : n < 10 ^ k) : (decimal n).length ≤ k:=(qE n).len k hk h
theorem oj : ∀ l : List Bytes,(blanks l).length ≤ (l.map (fun x => x.length + 1)).sum
 | [] => by simp [blanks]
 | [x] => by simp [blanks]
 | x :: y :: r => by
   have:=oj (y :: r)
   show (x ++ (32 :: blanks (y :: r))).length ≤ _
   rw [List.length_append,List.length_cons,List.map_cons,List.sum_cons]
   omega
theorem abf (s : Nat) : [letterOf s].length = 1:=rfl
theorem K8 {s : State} (g : Good s) {m : Msg} (hm : cX s m) : (textOf m).length ≤ 60:=by
 have hv : ∀ r no,dy s r no → r < 10 ^ 1 ∧ no < 10 ^ 2:=fun r no ⟨v,hv,e1,e2⟩ => by
  have h1:=(g.vo v hv).r
  have h2:=(g.vo v hv).no
  omega
 have ht : ∀ r no v,cY s r no v → r < 10 ^ 1 ∧ no < 10 ^ 2 ∧ v < 10 ^ 1:=fun r no v ⟨t,ht,e1,e2,e3⟩ => by
  have h0:=hv _ _ (g.tv t ht)
  have h1:=(g.to t ht).oN
  omega
 cases m with
 | ask r no f n =>
   obtain ⟨h1,⟨_,h2⟩,_,h3⟩:=hm
   obtain ⟨a,b⟩:=hv _ _ h1
   have l1:=eV (by decide) a
   have l2:=eV (by decide) b
   have l3:=eV (k:=4) (by decide) (show f < 10 ^ 4 by omega)
   have l4:=eV (k:=1) (by decide) (show n < 10 ^ 1 by omega)
   have:=oj [ASK,decimal r,decimal no,decimal f,decimal n]
   have e : ASK.length = 3:=rfl
   simp only [List.map_cons,List.map_nil,List.sum_cons,List.sum_nil] at this
   show (blanks _).length ≤ 60
   omega
 | can r no =>
   obtain ⟨a,b⟩:=hv _ _ hm
   have l1:=eV (by decide) a
   have l2:=eV (by decide) b
   have:=oj [CAN,decimal r,decimal no]
   have e : CAN.length = 3:=rfl
   simp only [List.map_cons,List.map_nil,List.sum_cons,List.sum_nil] at this
   show (blanks _).length ≤ 60
   omega
 | st r no v st =>
   obtain ⟨a,b,c⟩:=ht _ _ _ hm.1
   have l1:=eV (by decide) a
   have l2:=eV (by decide) b
   have l3:=eV (by decide) c
   have:=oj [ST_,decimal r,decimal no,decimal v,[letterOf st]]
   have e : ST_.length = 2:=rfl
   have e2:=abf st
   simp only [List.map_cons,List.map_nil,List.sum_cons,List.sum_nil] at this
   show (blanks _).length ≤ 60
   omega
 | ack r no v =>
   obtain ⟨a,b,c⟩:=ht _ _ _ hm
   have l1:=eV (by decide) a
   have l2:=eV (by decide) b
   have l3:=eV (by decide) c
   have:=oj [ACK,decimal r,decimal no,decimal v]
   have e : ACK.length = 3:=rfl
   simp only [List.map_cons,List.map_nil,List.sum_cons,List.sum_nil] at this
   show (blanks _).length ≤ 60
   omega
theorem Nt (l : List Truth) : (l.flatMap fun t => [(t.r : Int),(t.no : Int),(t.n : Int)]).length = 3 * l.length:=by
 induction l with
 | nil => rfl
 | cons t l ih =>
   rw [List.flatMap_cons,List.length_append,ih]
   simp only [List.length_cons,List.length_nil]
   omega
theorem aeQ {s : State} (g : Good s) (c : Call) : (step s c).2.length ≤ 200:=by
 cases c with
 | flight f cap =>
   show (if _ then (s,[-5]) else if _ then (s,[-6]) else _ : State × List Int).2.length ≤ 200
   split
   ·simp
   ·split <;> simp
 | cap f cap =>
   show (onFlight s f _).2.length ≤ 200
   unfold onFlight
   split
   ·simp
   ·dsimp only
    split
    ·simp
    ·simp [grown]
 | shut f =>
   show (onFlight s f _).2.length ≤ 200
   unfold onFlight
   split
   ·simp
   ·dsimp only
    split
    ·simp
    ·simp [grown]
 | sell r f n =>
   show (if _ then (s,[-6]) else _ : State × List Int).2.length ≤ 200
   split <;> simp
 | giveUp r no =>
   unfold step
   simp only
   split
   ·simp
   ·split <;> simp
 | deliver k =>
   show (onMsg s k _).2.length ≤ 200
   unfold onMsg
   split <;> simp [grown]
 | lose k =>
   show (onMsg s k _).2.length ≤ 200
   unfold onMsg
   split <;> simp
 | double k =>
   show (onMsg s k _).2.length ≤ 200
   unfold onMsg
   split
   ·simp
   ·split <;> simp
 | again => simp [step]
 | calm => simp [step]
 | view r no =>
   unfold step
   simp only
   split <;> simp
 | truth r no =>
   unfold step
   simp only
   split <;> simp
 | seats f =>
   show (onFlight s f _).2.length ≤ 200
   unfold onFlight
   split <;> simp
 | line f =>
   show (onFlight s f _).2.length ≤ 200
   unfold onFlight
   split
   ·simp
   ·rename_i x _
    show (0 :: (waitingOn s f).flatMap _).length ≤ 200
    rw [List.length_cons,Nt]
    have h1 : (waitingOn s f).length ≤ s.truths.length:=List.length_filter_le _ _
    have h2:=mI g
    omega
 | net => simp [step]
 | text k =>
   show (onMsg s k _).2.length ≤ 200
   unfold onMsg
   split
   ·simp
   ·rename_i m hm
    show (0 :: Vbahap.ints (textOf m)).length ≤ 200
    have:=K8 g (qx g hm)
    unfold Vbahap.ints
    rw [List.length_cons,List.length_map]
    omega
 | read b =>
   unfold step
   simp only
   split
   ·simp
   ·rename_i m hm
    cases m <;> simp [Vbahap.ints,numbersOf]
 | settled => simp [step]
theorem WW {q : Nat} {l : List Int} {s : State} (g : Good s) (h : Fits q l) : (stepRows s (rowsOf q l)).2.length ≤ 200:=by
 rw [o3 s h]
 by_cases c : inR q l = true
 ·rw [if_pos c]
  exact aeQ g _
 ·rw [if_neg c]
  simp
end Sh
end
section
namespace L2
open PySem PySem.Spec PyProof.Rows
abbrev Key:=Sum Int Str
def mC : Key → Value → Bool
 | .inl k,v => Value.isInt k v
 | .inr x,v => Value.isStrOf x v
def abu (w : World) : Key → Int
 | .inl k => hashInt k
 | .inr x => hashStr w x
theorem jI : ∀ {k : Key} {v : Value},mC k v = true → (∃ i t,k = Sum.inl i ∧ v = Value.int i t) ∨ (∃ x t,k = Sum.inr x ∧ v = Value.str x t)
 | .inl i,v,h => by
   obtain ⟨t,e⟩:=Value.isInt_shape (k:=i) (v:=v) h
   exact .inl ⟨i,t,rfl,e⟩
 | .inr x,v,h => by
   obtain ⟨t,e⟩:=Value.isStrOf_shape (x:=x) (v:=v) h
   exact .inr ⟨x,t,rfl,e⟩
theorem abt (i : Int) (t : Tok) : mC (.inl i) (.int i t) = true:=by simp [mC,Value.isInt]
theorem abr (x : Str) (t : Tok) : mC (.inr x) (.str x t) = true:=by simp [mC,Value.isStrOf]
theorem abq (a b : Int) : decide ((Sum.inl a : Key) = Sum.inl b) = (a == b):=by
 by_cases e : a = b
 ·subst e; simp
 ·have h : ¬ (Sum.inl a : Key) = Sum.inl b:=fun q => e (Sum.inl.inj q)
  rw [decide_eq_false h]
  exact (beq_eq_false_iff_ne.mpr e).symm
theorem abn (a b : Str) : decide ((Sum.inr a : Key) = Sum.inr b) = decide (a = b):=by
 by_cases e : a = b
 ·subst e; simp
 ·have h : ¬ (Sum.inr a : Key) = Sum.inr b:=fun q => e (Sum.inr.inj q)
  rw [decide_eq_false h,decide_eq_false e]
theorem abp (a : Int) (b : Str) : decide ((Sum.inl a : Key) = Sum.inr b) = false:=decide_eq_false (fun q => nomatch q)
theorem abo (a : Str) (b : Int) : decide ((Sum.inr a : Key) = Sum.inl b) = false:=decide_eq_false (fun q => nomatch q)
def dN (prog : Program) (w : World) : PySem.KeyKind prog w Key where
 is:=mC
 hash:=abu w
 inj:=fun v a b ha hb => by
  rcases jI ha with ⟨i,t,rfl,rfl⟩ | ⟨x,t,rfl,rfl⟩
  ·rcases jI hb with ⟨j,u,rfl,e⟩ | ⟨y,u,rfl,e⟩
   ·injection e with e1 _; rw [e1]
   ·exact nomatch e
  ·rcases jI hb with ⟨j,u,rfl,e⟩ | ⟨y,u,rfl,e⟩
   ·exact nomatch e
   ·injection e with e1 _; rw [e1]
 byValue:=fun k v h => by
  rcases jI h with ⟨i,t,rfl,rfl⟩ | ⟨x,t,rfl,rfl⟩ <;> rfl
 pyHash:=fun hv h => by
  rcases jI hv with ⟨i,t,rfl,rfl⟩ | ⟨x,t,rfl,rfl⟩
  ·exact wpAny_pyHash_int h
  ·exact wpAny_pyHash_str h
 eqBool:=fun hu hv h => by
  rcases jI hu with ⟨i,t,rfl,rfl⟩ | ⟨x,t,rfl,rfl⟩
  ·rcases jI hv with ⟨j,u,rfl,rfl⟩ | ⟨y,u,rfl,rfl⟩
   ·rw [abq] at h; exact wpAny_eqBool_int h
   ·rw [abp] at h; exact SeqAt.EqAt.int_str i t y u _ _ _ _ h
  ·rcases jI hv with ⟨j,u,rfl,rfl⟩ | ⟨y,u,rfl,rfl⟩
   ·rw [abo] at h; exact SeqAt.EqAt.str_int x t j u _ _ _ _ h
   ·rw [abn] at h; exact wpAny_eqBool_str h
 «strs»:=fun k x t v h => by
  rcases jI h with ⟨i,u,rfl,e⟩ | ⟨y,u,rfl,e⟩
  ·exact nomatch e
  ·injection e with e1 _
   subst e1
   cases v <;> rfl
theorem aa4 (prog : Program) (w : World) (i : Int) (t : Tok) : (dN prog w).is (.inl i) (.int i t) = true:=abt i t
theorem aa3 (prog : Program) (w : World) (x : Str) (t : Tok) : (dN prog w).is (.inr x) (.str x t) = true:=abr x t
end L2
namespace L2
open PySem PySem.Spec PyProof.Rows
inductive V where
 | aC | bl (b : Bool) | int (i : Int) | str (x : Str) | dF (b : Array UInt8) | bF (b : UInt64) | ref (a : Addr) | ty (n : String)
 deriving DecidableEq
def RelV : V → Value → Prop
 | .aC,u => u = Value.none
 | .bl b,u => u = Value.bool b
 | .int i,u => ∃ t,u = Value.int i t
 | .str x,u => ∃ t,u = Value.str x t
 | .dF b,u => ∃ t,u = Value.bytes b t
 | .bF b,u => ∃ t,u = Value.float b t
 | .ref a,u => u = Value.ref a
 | .ty n,u => u = Value.type n
abbrev Vals : List V → List Value → Prop:=Paired RelV
theorem Vals.length {xs : List V} {us : List Value} (r : Vals xs us) : xs.length = us.length:=Paired.length r
theorem Vals.get : ∀ {xs : List V} {us : List Value} {i : Nat} {x : V},Vals xs us → xs[i]? = some x → ∃ u,us[i]? = some u ∧ RelV x u
 | _,_,_,_,.nil,e => by simp at e
 | _,_,0,_,.cons r _,e => by simp at e; subst e; exact ⟨_,rfl,r⟩
 | _,_,i + 1,x,.cons _ t,e => by
   obtain ⟨u,h1,h2⟩:=Vals.get (i:=i) (x:=x) t (by simpa using e)
   exact ⟨u,by simpa using h1,h2⟩
theorem Vals.append : ∀ {xs ys : List V} {us ws : List Value},Vals xs us → Vals ys ws → Vals (xs ++ ys) (us ++ ws)
 | _,_,_,_,.nil,s => s
 | _,_,_,_,.cons r t,s => .cons r (Vals.append t s)
theorem Vals.take : ∀ {xs : List V} {us : List Value} (n : Nat),Vals xs us → Vals (xs.take n) (us.take n)
 | _,_,0,_ => .nil
 | _,_,_ + 1,.nil => .nil
 | _,_,n + 1,.cons r t => .cons r (Vals.take n t)
theorem Vals.drop : ∀ {xs : List V} {us : List Value} (n : Nat),Vals xs us → Vals (xs.drop n) (us.drop n)
 | _,_,0,r => r
 | _,_,_ + 1,.nil => .nil
 | _,_,n + 1,.cons _ t => Vals.drop n t
def cM : Option V → Option Value → Prop
 | some v,some u => RelV v u
 | none,none => True
 | _,_ => False
def KV {κ : Type} : List (κ × V) → List (κ × Value) → Prop:=Paired fun (p : κ × V) (q : κ × Value) => p.1 = q.1 ∧ RelV p.2 q.2
def kV : Key → V
 | .inl i => .int i
 | .inr x => .str x
inductive HO where
 | lst (xs : List V)
 | tup (xs : List V)
 | dK (kvs : List (Key × V)) | dT (kvs : List (List Key × V))
 | set (S : Int → Bool) (n : Nat)
 | ins (C dx : Addr) (fs : List (Str × V))
 | own (x : Addr)
 | xd (fs : List (Str × V))
 | met (f x : Addr)
 | uw (lo hi : Int)
 | a7 (o : Obj) (u : HO)
 | k0 (ps : Array Value)
 | ext (φ : Heap → Prop)
abbrev Hp:=Addr → Option HO
def upd (H : Hp) (a : Addr) (o : HO) : Hp:=fun b => if b = a then some o else H b
theorem af {H : Hp} {a : Addr} {o : HO} : upd H a o a = some o:=by unfold upd; rw [if_pos rfl]
theorem ag {H : Hp} {a b : Addr} {o : HO} (h : b ≠ a) : upd H a o b = H b:=by unfold upd; rw [if_neg h]
theorem cZ {H : Hp} {a : Addr} {o u : HO} : upd (upd H a o) a u = upd H a u:=by
 funext b; unfold upd; split <;> rfl
theorem K1 {H : Hp} {a b : Addr} {o u : HO} (h : H a = some o) (h' : H b = some u) (d : o ≠ u) : a ≠ b:=by
 intro e; subst e; rw [h] at h'; exact d (Option.some.inj h')
theorem bj {H : Hp} {a b : Addr} {o : HO} (h : H a = some o) (h' : H b = none) : a ≠ b:=by
 intro e; subst e; rw [h] at h'; cases h'
section
variable (P : Program) (w : World)
def bZ (H : Hp) (h : Heap) (a : Addr) : HO → Prop
 | .lst xs => xs.length ≤ sizeLine ∧ ∃ (its : List Value) (n : Nat),Vals xs its ∧ h.get? a = some { cls:=.type "list",data:=.seq its.toArray n }
 | .tup xs => xs.length ≤ sizeLine ∧ ∃ its : List Value,Vals xs its ∧ IsTup h a its.toArray
 | .dK kvs => kvs.length ≤ sizeLine ∧ (a == sysModules) = false ∧ ∃ vs,KV kvs vs ∧ h.DictOf (dN P w) a vs
 | .dT kvs => kvs.length ≤ sizeLine ∧ (a == sysModules) = false ∧ ∃ xs : List (List Key × Addr × Value),
  Paired (fun (p : List Key × V) (q : List Key × Addr × Value) => p.1 = q.1 ∧ H q.2.1 = some (.tup (p.1.map kV)) ∧ RelV p.2 q.2.2) kvs xs ∧
  ∃ o es ep,h.get? a = some o ∧ o.ExactDict ∧ o.data = .dict es ep ∧ es.toList = xs.map (entryOfKey (tupleKind (dN P w))) ∧ (xs.map (·.1)).Nodup
 | .set S n => h.SetOf (intKind P w) a S n
 | .ins C dx fs => H dx = some (.own a) ∧ fs.length ≤ 1000 ∧ dx ≠ a ∧ h.get? a = some (PySem.W.instObj C dx) ∧
  ∃ mA,h.Ns1 dx mA ∧ (∀ f,cM (fs.lookup f) (mA f)) ∧ PySem.Within mA (fs.map (·.1))
 | .own _ => ∃ o,h.get? a = some o
 | .xd fs => ∃ mA,h.Ns1 a mA ∧ ∀ f,cM (fs.lookup f) (mA f)
 | .uw lo hi => ∃ t u v,h.get? a = some { cls:=.type "range",data:=.fields #[.int lo t,.int hi u,.int 1 v] }
 | .a7 o u => h.get? a = some o ∧ bZ H h a u
 | .k0 ps => h.get? a = some { cls:=.none,data:=.fields ps }
 | .met f x => h.get? a = some (PySem.W.methodObj (.ref f) (.ref x))
 | .ext φ => φ h ∧ (∃ o,h.get? a = some o) ∧ ∀ h1 h2 : Heap,φ h1 → (∀ o,h1.get? a = some o → h2.get? a = some o) → φ h2
def bT (H : Hp) (h : Heap) : Prop:=∀ a o,H a = some o → bZ P w H h a o
end
section
variable {P : Program} {w : World} {H H' : Hp} {h h' : Heap} {a : Addr} {o : HO}
theorem bZ.lt (x : bZ P w H h a o) : a < h.objs.size:=by
 cases o with
 | lst xs => obtain ⟨_,_,_,_,e⟩:=x; exact Heap.lt_size e
 | tup xs => obtain ⟨_,_,_,p⟩:=x; exact p.lt
 | dK kvs => obtain ⟨_,_,_,_,o,_,_,e,_⟩:=x; exact Heap.lt_size e
 | dT kvs => obtain ⟨_,_,_,_,o,_,_,e,_⟩:=x; exact Heap.lt_size e
 | set S n => obtain ⟨o,_,_,_,e,_⟩:=x; exact Heap.lt_size e
 | ins C dx fs => obtain ⟨_,_,_,e,_⟩:=x; exact Heap.lt_size e
 | own y => obtain ⟨_,e⟩:=x; exact Heap.lt_size e
 | xd fs => obtain ⟨_,⟨_,_,_,e,_⟩,_⟩:=x; exact Heap.lt_size e
 | uw lo hi => obtain ⟨_,_,_,e⟩:=x; exact Heap.lt_size e
 | a7 ob u => obtain ⟨e,_⟩:=x; exact Heap.lt_size e
 | k0 ps => exact Heap.lt_size (show h.get? a = some _ from x)
 | met f y => exact Heap.lt_size (show h.get? a = some _ from x)
 | ext φ => obtain ⟨_,⟨_,e⟩,_⟩:=x; exact Heap.lt_size e
theorem Paired.wX {α β : Type} {F G : α → β → Prop} : ∀ {l₁ : List α} {l₂ : List β},Paired F l₁ l₂ → (∀ a b,F a b → G a b) → Paired G l₁ l₂
 | _,_,.nil,_ => .nil
 | _,_,.cons r t,f => .cons (f _ _ r) (Paired.wX t f)
theorem bZ.gc (x : bZ P w H h a o) (k : ∀ b u,(b = a ∨ H b = some (.own a)) → h.get? b = some u → h'.get? b = some u)
 (ho : ∀ b,H b = some (.own a) → H' b = some (.own a)) (ht : ∀ b xs,H b = some (.tup xs) → H' b = some (.tup xs)) : bZ P w H' h' a o:=by
 induction o with
 | lst xs => obtain ⟨z,its,n,r,e⟩:=x; exact ⟨z,its,n,r,k _ _ (.inl rfl) e⟩
 | tup xs => obtain ⟨z,its,r,ob,e,c⟩:=x; exact ⟨z,its,r,ob,k _ _ (.inl rfl) e,c⟩
 | dK kvs => obtain ⟨z,y,vs,r,ob,es,ep,e,c⟩:=x; exact ⟨z,y,vs,r,ob,es,ep,k _ _ (.inl rfl) e,c⟩
 | dT kvs =>
   obtain ⟨z,y,xs,r,ob,es,ep,e,c⟩:=x
   exact ⟨z,y,xs,Paired.wX r fun p q z => ⟨z.1,ht _ _ z.2.1,z.2.2⟩,ob,es,ep,k _ _ (.inl rfl) e,c⟩
 | set S n => obtain ⟨ob,es,ep,t,e,c⟩:=x; exact ⟨ob,es,ep,t,k _ _ (.inl rfl) e,c⟩
 | ins C dx fs =>
   obtain ⟨d,z,ne,e,mA,⟨od,es,ep,e2,c⟩,r⟩:=x
   exact ⟨ho _ d,z,ne,k _ _ (.inl rfl) e,mA,⟨od,es,ep,k _ _ (.inr d) e2,c⟩,r⟩
 | own y => obtain ⟨ob,e⟩:=x; exact ⟨ob,k _ _ (.inl rfl) e⟩
 | xd fs => obtain ⟨mA,⟨od,es,ep,e,c⟩,r⟩:=x; exact ⟨mA,⟨od,es,ep,k _ _ (.inl rfl) e,c⟩,r⟩
 | uw lo hi => obtain ⟨t,u,v,e⟩:=x; exact ⟨t,u,v,k _ _ (.inl rfl) e⟩
 | a7 ob u ih => obtain ⟨e,q⟩:=x; exact ⟨k _ _ (.inl rfl) e,ih q⟩
 | k0 ps =>
   have e : h.get? a = some { cls:=.none,data:=.fields ps }:=x
   show h'.get? a = some { cls:=.none,data:=.fields ps }
   exact k a _ (.inl rfl) e
 | met f y =>
   have e : h.get? a = some (PySem.W.methodObj (.ref f) (.ref y)):=x
   show h'.get? a = some (PySem.W.methodObj (.ref f) (.ref y))
   exact k a _ (.inl rfl) e
 | ext φ => obtain ⟨p,⟨o,e⟩,st⟩:=x; exact ⟨st _ _ p fun o q => k _ _ (.inl rfl) q,⟨o,k _ _ (.inl rfl) e⟩,st⟩
theorem bT.lt (x : bT P w H h) (e : H a = some o) : a < h.objs.size:=(x a o e).lt
theorem bT.fresh (x : bT P w H h) (e : h.objs.size ≤ a) : H a = none:=by
 cases q : H a with
 | none => rfl
 | some u => exact absurd (Nat.lt_of_lt_of_le (x.lt q) e) (Nat.lt_irrefl _)
theorem bT.kept (x : bT P w H h) (k : ∀ b u,h.get? b = some u → h'.get? b = some u) : bT P w H h':=fun a o e =>
 (x a o e).gc (fun b u _ q => k b u q) (fun _ q => q) fun _ _ q => q
theorem bT.laid (x : bT P w H h) (k : ∀ b u,h.get? b = some u → h'.get? b = some u) (hp : h.objs.size ≤ a) (new : bZ P w (upd H a o) h' a o) : bT P w (upd H a o) h':=fun b u e => by
 have hn:=x.fresh hp
 by_cases hb : b = a
 ·subst hb; rw [af] at e; cases e; exact new
 ·rw [ag hb] at e
  exact (x b u e).gc (fun c v _ q => k c v q) (fun c q => by rw [ag (bj q hn)]; exact q) fun c xs q => by rw [ag (bj q hn)]; exact q
end
def Rd (H : Hp) (a : Addr) (u : HO) : Prop:=H a = some u ∨ ∃ o,H a = some (.a7 o u)
theorem Rd.ok {P : Program} {w : World} {H : Hp} {h : Heap} {a : Addr} {u : HO} (r : Rd H a u) (x : bT P w H h) : bZ P w H h a u:=by
 rcases r with r | ⟨o,r⟩
 ·exact x a u r
 ·obtain ⟨_,q⟩:=x a _ r
  exact q
def kh : Option HO → Prop
 | some (.lst _) => True
 | some (.dK _) => True
 | some (.dT _) => True
 | some (.set _ _) => True
 | some (.ins _ _ _) => True
 | some (.ext _) => True
 | _ => False
section
variable {P : Program} {w : World} {H : Hp} {h h' : Heap} {x e : Addr} {o' : HO}
theorem bT.write (ok : bT P w H h) (mu : kh (H x)) (he : e = x ∨ H e = some (.own x)) (k : ∀ b u,b ≠ e → h.get? b = some u → h'.get? b = some u) (heo : ∃ u,h'.get? e = some u)
 (new : bZ P w (upd H x o') h' x o') : bT P w (upd H x o') h':=fun b u q => by
 have nown : ∀ c y,H c = some (.own y) → c ≠ x:=fun c y r z => by subst z; rw [r] at mu; exact mu
 have ntup : ∀ c xs,H c = some (.tup xs) → c ≠ x:=fun c xs r z => by subst z; rw [r] at mu; exact mu
 by_cases hb : b = x
 ·subst hb; rw [af] at q; cases q; exact new
 ·rw [ag hb] at q
  by_cases hbe : b = e
  ·have q' : H b = some (.own x):=by
    rcases he with z | z
    ·exact absurd (hbe.trans z) hb
    ·rw [hbe]; exact z
   rw [q] at q'; cases q'
   obtain ⟨v,hv⟩:=heo
   exact ⟨v,by rw [hbe]; exact hv⟩
  ·refine (ok b u q).gc (fun c v hc r => k c v ?_ r) (fun c r => by rw [ag (nown c b r)]; exact r) fun c xs r => by rw [ag (ntup c xs r)]; exact r
   rcases hc with rfl | hc
   ·exact hbe
   ·rintro rfl
    rcases he with z | z
    ·exact nown c b hc z
    ·rw [hc] at z; cases z; exact hb rfl
end
structure Un (fs ex : List Addr) (H H' : Hp) (h h' : Heap) : Prop where
 keep : ∀ b o,h.get? b = some o → H b = none → b ∉ fs → b ∉ ex → h'.get? b = some o
 slot : ∀ b o,h.get? b = some o → H b = none → b ∈ fs → b ∉ ex → ∃ sl,h'.get? b = some { o with slots:=sl }
 free : ∀ b o,h.get? b = some o → H b = none → b ∉ ex → H' b = none
 there : ∀ b o,h.get? b = some o → b ∉ ex → ∃ o',h'.get? b = some o'
 ij : ∀ b xs,H b = some (.tup xs) → H' b = some (.tup xs)
 fD : ∀ b o u,H b = some (.a7 o u) → H' b = some (.a7 o u)
 ik : ∀ b ps,H b = some (.k0 ps) → ∃ more,H' b = some (.k0 (ps ++ more))
section
variable {fs fs' ex ex' : List Addr} {H H1 H2 : Hp} {h h1 h2 h' : Heap} {a x e : Addr} {o : HO}
theorem Un.any (u : Un fs ex H H1 h h1) {b : Addr} {ob : Obj} (q : h.get? b = some ob) (n : H b = none) (hx : b ∉ ex) : ∃ sl,h1.get? b = some { ob with slots:=sl }:=by
 by_cases hb : b ∈ fs
 ·exact u.slot b ob q n hb hx
 ·exact ⟨ob.slots,u.keep b ob q n hb hx⟩
theorem Un.kept (k : ∀ b u,h.get? b = some u → h'.get? b = some u) : Un fs ex H H h h' :=
 ⟨fun b ob q _ _ _ => k b ob q,fun b ob q _ _ _ => ⟨ob.slots,k b ob q⟩,fun _ _ _ n _ => n,fun b ob q _ => ⟨ob,k b ob q⟩,fun _ _ q => q,fun _ _ _ q => q,fun _ ps q => ⟨#[],by rw [q]; simp⟩⟩
theorem Un.refl : Un fs ex H H h h:=Un.kept fun _ _ q => q
theorem Un.laid (k : ∀ b u,h.get? b = some u → h'.get? b = some u) (hp : h.objs.size ≤ a) (hn : H a = none) : Un fs ex H (upd H a o) h h' where
 keep:=fun b u q _ _ _ => k b u q
 slot:=fun b u q _ _ _ => ⟨u.slots,k b u q⟩
 free:=fun b u q n _ => by rw [ag (Nat.ne_of_lt (Nat.lt_of_lt_of_le (Heap.lt_size q) hp))]; exact n
 there:=fun b u q _ => ⟨u,k b u q⟩
 ij:=fun b xs q => by rw [ag (bj q hn)]; exact q
 fD:=fun b u xs q => by rw [ag (bj q hn)]; exact q
 ik:=fun b ps q => ⟨#[],by rw [ag (bj q hn),q]; simp⟩
theorem Un.write (mu : kh (H x)) (he : e = x ∨ H e = some (.own x)) (k : ∀ b u,b ≠ e → h.get? b = some u → h'.get? b = some u) (heo : ∃ u,h'.get? e = some u) : Un fs ex H (upd H x o) h h':=by
 have hx : ∀ b,H b = none → b ≠ x:=fun b n z => by subst z; rw [n] at mu; exact mu
 have hb : ∀ b,H b = none → b ≠ e:=fun b n z => by
  subst z
  rcases he with r | r
  ·exact hx b n r
  ·rw [n] at r; cases r
 have hm : ∀ b u,H b = some u → ¬ kh (some u) → b ≠ x:=fun b u q nm z => by subst z; rw [q] at mu; exact nm mu
 refine ⟨fun b u q n _ _ => k b u (hb b n) q,fun b u q n _ _ => ⟨u.slots,k b u (hb b n) q⟩,fun b u q n _ => by rw [ag (hx b n)]; exact n,fun b u q _ => ?_,
  fun b xs q => by rw [ag (hm b _ q fun z => z)]; exact q,fun b u xs q => by rw [ag (hm b _ q fun z => z)]; exact q,fun b ps q => ⟨#[],by rw [ag (hm b _ q fun z => z),q]; simp⟩⟩
 by_cases hbe : b = e
 ·subst hbe; exact heo
 ·exact ⟨u,k b u hbe q⟩
end
def oS (h : Heap) (H : Hp) : List Addr:=(List.range h.objs.size).filter fun a => (H a).isSome
def jP (h : Heap) (H : Hp) : Heap:=PySem.W.hideAll h (oS h H)
theorem aci (h : Heap) (H : Hp) : (jP h H).objs.size = h.objs.size:=PySem.W.hideAll_size _ _
theorem acj {h : Heap} {H : Hp} {b : Addr} {o : Obj} (e : h.get? b = some o) (n : H b = none) : (jP h H).get? b = some o :=
 PySem.W.hideAll_get _ e fun hm => by
  have q : (H b).isSome = true:=(List.mem_filter.mp hm).2
  rw [n] at q; simp at q
theorem Yt {h : Heap} {H : Hp} {b : Addr} {o : Obj} (e : (jP h H).get? b = some o) : h.get? b = some o ∧ H b = none:=by
 have e' : h.get? b = some o:=PySem.W.of_hideAll (oS h H) e
 refine ⟨e',?_⟩
 cases q : H b with
 | none => rfl
 | some x =>
   have hm : b ∈ oS h H:=List.mem_filter.mpr ⟨List.mem_range.mpr (Heap.lt_size e'),by simp [q]⟩
   have z : (jP h H).get? b = none:=PySem.W.hideAll_none (oS h H) hm
   rw [z] at e; cases e
end L2
namespace L2
open PySem PySem.Spec PyProof.Rows
structure Mod (K : PySem.W.Frag) (mg : Str → Option Value) (base : Heap) : Prop where
 mz : K.In base
 glob : base.Ns mainGlobals mg
 blt : ∃ mb,base.Ns builtinsNs mb ∧ ∀ x : Str,x ≠ "__name__" → mb x = bootBuiltins x
 nolimit : base.NoLimit
structure Cx where
 prog : Program
 w : World
 K : PySem.W.Frag
 mg : Str → Option Value
 base : Heap
 A : Around
 N : List Str
 cV : Shared
 lL : Hp
 env : Env
 outer : List Env
 stack : List Env
 ex : List Addr
 fn : Str → Bool
 calm : Bool
 pn : List (Addr × Obj)
 xe : Value → Shared → Prop
def fE (l : List Env) : List Addr:=l.filterMap (·.frame)
abbrev Cx.fs (X : Cx) : List Addr:=fE X.outer
def ow (sc : Scope) (x : Str) : Prop:=sc.names.lookup x = some .local ∨ sc.names.lookup x = some .cell ∨ sc.names.lookup x = some .free
def Loc (sc : Scope) (x : Str) : Prop:=sc.names.lookup x = some .local ∨ sc.names.lookup x = some .cell
def Look (env : Env) (h : Heap) (m : Str → Option Value) (x : Str) (u : Value) : Prop :=
 (env.kindOf x = some .local ∧ m x = some u) ∨ ((env.kindOf x = some .cell ∨ env.kindOf x = some .free) ∧ ∃ c,env.cells.lookup x = some c ∧ h.IsCell c (some u))
structure Cx.Ok (X : Cx) : Prop where
 mod : Mod X.K X.mg X.base
 kind : X.env.scope.kind = .function
 glob : X.env.globals = mainGlobals
 blt : X.env.builtins = builtinsNs
 above : X.cV.heap.objs.size ≤ X.env.locals
 inj : ∀ x y c,X.env.cells.lookup x = some c → X.env.cells.lookup y = some c → x = y
 has : ∀ x,(X.env.kindOf x = some .cell ∨ X.env.kindOf x = some .free) → ∃ c,X.env.cells.lookup x = some c
 n8 : ∀ x c,X.fn x = true → X.env.cells.lookup x = some c → X.cV.heap.objs.size ≤ c
 hd : X.calm = true → X.A.handled = none
 frames : X.A.frames = some X.stack
 oZ : X.stack = X.outer ∨ (X.stack = X.env :: X.outer ∧ X.env.frame = some X.env.locals)
 qz : ∀ b ∈ X.ex,b ≠ X.env.locals ∧ ∀ x c,X.env.cells.lookup x = some c → c ≠ b
 bs : ∀ b o,X.base.get? b = some o → X.cV.heap.get? b = some o ∧ X.lL b = none
 kb : X.base.objs.size ≤ X.cV.heap.objs.size
 nJ : ∀ b o,X.base.get? b = some o → b ∉ X.ex
 nY : ∀ b ∈ X.ex,b ∉ X.fs
 eT : X.cV.heap.FunFrames X.base X.outer
 lE : ∀ b ∈ X.fs,X.lL b = none
structure Inv (X : Cx) (pins : List (Addr × Obj)) (σ : List (Option V)) (H : Hp) (s : Shared) : Prop where
 ok : X.Ok
 os : s.os = X.cV.os
 bare : AllBare s.gens
 base : Un X.fs X.ex X.lL H X.cV.heap s.heap
 loc : ∃ m,s.heap.Ns X.env.locals m ∧ ∀ (i : Nat) (x : Str) (v : V),X.N[i]? = some x → σ[i]? = some (some v) → ow X.env.scope x → ∃ u,RelV v u ∧ Look X.env s.heap m x u
 cell : ∀ x c,X.env.cells.lookup x = some c → ∃ v,s.heap.IsCell c v
 free : H X.env.locals = none
 eD : ∀ x c,X.env.cells.lookup x = some c → H c = none
 pin : ∀ p ∈ X.pn ++ pins,s.heap.get? p.1 = some p.2 ∧ H p.1 = none ∧ p.1 ≠ X.env.locals ∧ p.1 ∉ X.fs ∧ ∀ v,p.2.data ≠ .cell v
 ax : bT X.prog X.w H s.heap
 len : σ.length = X.N.length
section
variable {X : Cx} {pins : List (Addr × Obj)} {σ : List (Option V)} {H H' : Hp} {s : Shared} {h' : Heap}
theorem Cx.Ok.aaQ (ok : X.Ok) {b : Addr} {o : Obj} (e : X.base.get? b = some o) : b ∉ X.fs:=fun hb => by
 have:=(ok.eT.mem hb).1
 rw [e] at this; cases this
theorem Inv.bs (I : Inv X pins σ H s) : ∀ b o,X.base.get? b = some o → s.heap.get? b = some o ∧ H b = none:=fun b o e =>
 ⟨I.base.keep b o (I.ok.bs b o e).1 (I.ok.bs b o e).2 (I.ok.aaQ e) (I.ok.nJ b o e),I.base.free b o (I.ok.bs b o e).1 (I.ok.bs b o e).2 (I.ok.nJ b o e)⟩
theorem Inv.bk (I : Inv X pins σ H s) : ∀ b o,X.base.get? b = some o → s.heap.get? b = some o:=fun b o e => (I.bs b o e).1
theorem Inv.mod (I : Inv X pins σ H s) : Mod X.K X.mg X.base:=I.ok.mod
theorem Inv.dj (I : Inv X pins σ H s) : X.K.In s.heap:=I.ok.mod.mz.keeps I.bk
theorem Inv.lt (I : Inv X pins σ H s) : X.env.locals < s.heap.objs.size:=let ⟨_,hn,_⟩:=I.loc; hn.lt
theorem Inv.sz (I : Inv X pins σ H s) : X.cV.heap.objs.size ≤ s.heap.objs.size:=Nat.le_trans I.ok.above (Nat.le_of_lt I.lt)
theorem Inv.aaO (I : Inv X pins σ H s) {a : Addr} (h : s.heap.objs.size ≤ a) : a ∉ X.fs:=fun hb => by
 obtain ⟨_,o,ho,_⟩:=I.ok.eT.mem hb
 exact absurd (Nat.lt_of_lt_of_le (Heap.lt_size ho) (Nat.le_trans I.sz h)) (Nat.lt_irrefl _)
theorem Inv.lH (I : Inv X pins σ H s) : ∀ x c,X.env.cells.lookup x = some c → c ≠ X.env.locals:=fun x c e z => by
 obtain ⟨v,o,ho,hd⟩:=I.cell x c e
 obtain ⟨m,⟨o',es,ep,ho',hd',_⟩,_⟩:=I.loc
 rw [z,ho'] at ho; cases ho; rw [hd'] at hd; cases hd
theorem Inv.eT (I : Inv X pins σ H s) : s.heap.FunFrames X.base X.outer:=by
 have all : ∀ (l : List Env),(∀ b ∈ fE l,b ∈ X.fs) → X.cV.heap.FunFrames X.base l → s.heap.FunFrames X.base l:=by
  intro l
  induction l with
  | nil => intro _ _; trivial
  | cons env r ih =>
    intro hs hl
    obtain ⟨hk,⟨L,o,hf,hn,ho,hd⟩,hr⟩:=hl
    have hL : L ∈ X.fs:=hs L (by unfold fE; rw [List.filterMap_cons,hf]; exact List.mem_cons_self)
    obtain ⟨sl,e⟩:=I.base.slot L o ho (I.ok.lE L hL) hL fun z => I.ok.nY L z hL
    exact ⟨hk,⟨L,_,hf,hn,e,hd⟩,ih (fun b hb => hs b (by unfold fE; rw [List.filterMap_cons,hf]; exact List.mem_cons_of_mem _ hb)) hr⟩
 exact all X.outer (fun _ hb => hb) I.ok.eT
theorem Inv.stack (I : Inv X pins σ H s) : s.heap.FunFrames X.base X.stack:=by
 rcases I.ok.oZ with e | ⟨e,hf⟩
 ·rw [e]; exact I.eT
 ·rw [e]
  obtain ⟨m,hn,_⟩:=I.loc
  refine .cons (by rw [I.ok.kind]; decide) hf hn ?_ I.eT
  exact Heap.get?_none_of_le (Nat.le_trans I.ok.kb I.ok.above)
theorem Inv.ub (I : Inv X pins σ H s) : ∀ b ∈ fE X.stack,b ∈ X.env.locals :: X.fs:=fun b hb => by
 rcases I.ok.oZ with e | ⟨e,hf⟩
 ·rw [e] at hb; exact List.mem_cons_of_mem _ hb
 ·rw [e] at hb
  unfold fE at hb
  rw [List.filterMap_cons,hf] at hb
  exact hb
theorem Inv.GZ (I : Inv X pins σ H s) : ∀ b ∈ fE X.stack,H b = none:=fun b hb => by
 rcases List.mem_cons.mp (I.ub b hb) with e | hb
 ·rw [e]; exact I.free
 ·obtain ⟨_,o,ho,_⟩:=I.ok.eT.mem hb
  exact I.base.free b o ho (I.ok.lE b hb) fun z => I.ok.nY b z hb
theorem Inv.step {g' : Array GenState} {t' : Nat} {d' : Drawn} {ch : List Addr} (I : Inv X pins σ H s)
 (hch : ∀ b ∈ ch,(b ∈ X.ex ∨ X.cV.heap.objs.size ≤ b) ∧ b ≠ X.env.locals ∧ (∀ x c,X.env.cells.lookup x = some c → c ≠ b) ∧ ∀ p ∈ X.pn ++ pins,p.1 ≠ b)
 (keep : ∀ b o,b ≠ X.env.locals → b ∉ X.fs → b ∉ ch → s.heap.get? b = some o → H b = none → h'.get? b = some o)
 (slot : ∀ b o,b ≠ X.env.locals → b ∈ X.fs → b ∉ ch → s.heap.get? b = some o → H b = none → ∃ sl,h'.get? b = some { o with slots:=sl }) (free : ∀ b o,b ∉ ch → s.heap.get? b = some o → H b = none → H' b = none)
 (there : ∀ b o,b ∉ ch → s.heap.get? b = some o → ∃ o',h'.get? b = some o')
 (ij : ∀ b xs,H b = some (.tup xs) → H' b = some (.tup xs)) (fD : ∀ b o u,H b = some (.a7 o u) → H' b = some (.a7 o u)) (ik : ∀ b ps,H b = some (.k0 ps) → ∃ more,H' b = some (.k0 (ps ++ more)))
 (ns : ∀ m,s.heap.Ns X.env.locals m → h'.Ns X.env.locals m) (ax : bT X.prog X.w H' h') (hg : AllBare g') :
 Inv X pins σ H' { s with heap:=h',gens:=g',drawn:=d',toks:=t' }:=by
 have neL : ∀ b o,X.cV.heap.get? b = some o → b ≠ X.env.locals:=fun b o e => Nat.ne_of_lt (Nat.lt_of_lt_of_le (Heap.lt_size e) I.ok.above)
 have neC : ∀ b o,X.cV.heap.get? b = some o → b ∉ X.ex → b ∉ ch:=fun b o e hx hb => by
  rcases (hch b hb).1 with z | z
  ·exact hx z
  ·exact absurd (Nat.lt_of_lt_of_le (Heap.lt_size e) z) (Nat.lt_irrefl _)
 have cellK : ∀ x c,X.env.cells.lookup x = some c → ∀ v,s.heap.IsCell c v → h'.IsCell c v:=fun x c e v ⟨o,ho,hd⟩ => by
  have nch : c ∉ ch:=fun z => (hch c z).2.2.1 x c e rfl
  by_cases hc : c ∈ X.fs
  ·obtain ⟨sl,q⟩:=slot c o (I.lH x c e) hc nch ho (I.eD x c e)
   exact ⟨_,q,hd⟩
  ·exact ⟨o,keep c o (I.lH x c e) hc nch ho (I.eD x c e),hd⟩
 refine ⟨I.ok,I.os,hg,⟨fun b o e n hb hx => ?_,fun b o e n hb hx => ?_,fun b o e n hx => ?_,fun b o e hx => ?_,fun b xs e => ij b xs (I.base.ij b xs e),fun b o xs e => fD b o xs (I.base.fD b o xs e),fun b ps e => ?_⟩,?_,fun x c e => ?_,?_,fun x c e => ?_,fun p hp => ?_,ax,I.len⟩
 ·exact keep b o (neL b o e) hb (neC b o e hx) (I.base.keep b o e n hb hx) (I.base.free b o e n hx)
 ·obtain ⟨sl,e1⟩:=I.base.slot b o e n hb hx
  obtain ⟨sl',e2⟩:=slot b _ (neL b o e) hb (neC b o e hx) e1 (I.base.free b o e n hx)
  exact ⟨sl',e2⟩
 ·obtain ⟨o',e1⟩:=I.base.there b o e hx
  exact free b o' (neC b o e hx) e1 (I.base.free b o e n hx)
 ·obtain ⟨o',e1⟩:=I.base.there b o e hx
  exact there b o' (neC b o e hx) e1
 ·obtain ⟨m1,e1⟩:=I.base.ik b ps e
  obtain ⟨m2,e2⟩:=ik b _ e1
  exact ⟨m1 ++ m2,by rw [e2,Array.append_assoc]⟩
 ·obtain ⟨m,hn,hl⟩:=I.loc
  refine ⟨m,ns m hn,fun i x v e1 e2 e3 => ?_⟩
  obtain ⟨u,r,l⟩:=hl i x v e1 e2 e3
  refine ⟨u,r,?_⟩
  rcases l with l | ⟨k,c,e,z⟩
  ·exact .inl l
  ·exact .inr ⟨k,c,e,cellK x c e _ z⟩
 ·obtain ⟨v,z⟩:=I.cell x c e
  exact ⟨v,cellK x c e v z⟩
 ·obtain ⟨m,⟨o,_,_,ho,_⟩,_⟩:=I.loc
  exact free _ o (fun z => (hch _ z).2.1 rfl) ho I.free
 ·obtain ⟨v,o,ho,hd⟩:=I.cell x c e
  exact free c o (fun z => (hch c z).2.2.1 x c e rfl) ho (I.eD x c e)
 ·obtain ⟨e,n,ne,nf,d⟩:=I.pin p hp
  have nch : p.1 ∉ ch:=fun z => (hch p.1 z).2.2.2 p hp rfl
  exact ⟨keep p.1 p.2 ne nf nch e n,free p.1 p.2 nch e n,ne,nf,d⟩
theorem Inv.un {t' : Nat} (I : Inv X pins σ H s) (u : Un X.fs [] H H' s.heap h') (ax : bT X.prog X.w H' h') : Inv X pins σ H' { s with heap:=h',toks:=t' }:=by
 obtain ⟨m,⟨o,es,ep,ho,r⟩,_⟩:=id I.loc
 obtain ⟨sl,hL⟩:=u.any ho I.free (by simp)
 exact I.step (g':=s.gens) (d':=s.drawn) (ch:=[]) (fun _ z => nomatch z) (fun b o _ hb _ e n => u.keep b o e n hb (by simp)) (fun b o _ hb _ e n => u.slot b o e n hb (by simp)) (fun b o _ e n => u.free b o e n (by simp)) (fun b o _ e => u.there b o e (by simp)) u.ij u.fD u.ik (fun m' hm => by
  obtain ⟨o',es',ep',ho',r'⟩:=hm
  rw [ho] at ho'; cases ho'
  exact ⟨_,es',ep',hL,r'⟩) ax I.bare
theorem Inv.call {g' : Array GenState} {t' : Nat} {d' : Drawn} {ch : List Addr} (I : Inv X pins σ H s) (u : Un (fE X.stack) ch H H' s.heap h') (ax : bT X.prog X.w H' h') (hg : AllBare g')
 (hch : ∀ b ∈ ch,(b ∈ X.ex ∨ X.cV.heap.objs.size ≤ b) ∧ b ≠ X.env.locals ∧ (∀ x c,X.env.cells.lookup x = some c → c ≠ b) ∧ ∀ p ∈ X.pn ++ pins,p.1 ≠ b) :
 Inv X pins σ H' { s with heap:=h',gens:=g',drawn:=d',toks:=t' }:=by
 obtain ⟨m,⟨o,es,ep,ho,r⟩,_⟩:=id I.loc
 obtain ⟨sl,hL⟩:=u.any ho I.free fun z => (hch _ z).2.1 rfl
 exact I.step (ch:=ch) hch (fun b o hL hb hc e n => u.keep b o e n (fun z => (List.mem_cons.mp (I.ub b z)).elim hL hb) hc) (fun b o _ _ hc e n => u.any e n hc) (fun b o hc e n => u.free b o e n hc) (fun b o hc e => u.there b o e hc) u.ij u.fD u.ik (fun m' hm => by
  obtain ⟨o',es',ep',ho',r'⟩:=hm
  rw [ho] at ho'; cases ho'
  exact ⟨_,es',ep',hL,r'⟩) ax hg
theorem Inv.turned {t' : Nat} {it : Addr} (I : Inv X pins σ H s) (k : ∀ b o,b ≠ it → s.heap.get? b = some o → h'.get? b = some o) (hn : H it = none) (hL : it ≠ X.env.locals)
 (h1 : it ∈ X.ex ∨ X.cV.heap.objs.size ≤ it) (h2 : ∀ x c,X.env.cells.lookup x = some c → c ≠ it) (h3 : ∀ p ∈ X.pn ++ pins,p.1 ≠ it) : Inv X pins σ H { s with heap:=h',toks:=t' }:=by
 have nit : ∀ b u,H b = some u → b ≠ it:=fun b u e z => by rw [z,hn] at e; cases e
 refine I.step (g':=s.gens) (d':=s.drawn) (ch:=[it]) (fun b hb => ?_) (fun b o _ _ hc e _ => k b o (fun z => hc (by simp [z])) e) (fun b o _ _ hc e _ => ⟨o.slots,k b o (fun z => hc (by simp [z])) e⟩) (fun _ _ _ _ n => n)
  (fun b o hc e => ⟨o,k b o (fun z => hc (by simp [z])) e⟩) (fun _ _ e => e) (fun _ _ _ e => e) (fun b ps e => ⟨#[],by rw [e]; simp⟩) (fun m hm => ?_) (fun b u e => ?_) I.bare
 ·have e : b = it:=by simpa using hb
  subst e
  exact ⟨h1,hL,h2,h3⟩
 ·obtain ⟨o,es,ep,ho,r⟩:=hm
  exact ⟨o,es,ep,k _ o (Ne.symm hL) ho,r⟩
 ·refine (I.ax b u e).gc (fun c v hc q => k c v ?_ q) (fun _ q => q) fun _ _ q => q
  rcases hc with z | z
  ·rw [z]; exact nit b u e
  ·exact nit c _ z
theorem Inv.tok (I : Inv X pins σ H s) (t : Nat) : Inv X pins σ H { s with toks:=t }:=I.un (h':=s.heap) (t':=t) Un.refl I.ax
theorem Inv.kept {t' : Nat} (I : Inv X pins σ H s) (k : ∀ b u,s.heap.get? b = some u → h'.get? b = some u) : Inv X pins σ H { s with heap:=h',toks:=t' }:=I.un (Un.kept k) (I.ax.kept k)
theorem Inv.laid {a : Addr} {o : HO} {t' : Nat} (I : Inv X pins σ H s) (k : ∀ b u,s.heap.get? b = some u → h'.get? b = some u) (hp : s.heap.objs.size ≤ a) (new : bZ X.prog X.w (upd H a o) h' a o) :
 Inv X pins σ (upd H a o) { s with heap:=h',toks:=t' }:=I.un (Un.laid k hp (I.ax.fresh hp)) (I.ax.laid k hp new)
theorem Inv.write {x e : Addr} {o : HO} {t' : Nat} (I : Inv X pins σ H s) (mu : kh (H x)) (he : e = x ∨ H e = some (.own x)) (k : ∀ b u,b ≠ e → s.heap.get? b = some u → h'.get? b = some u) (heo : ∃ u,h'.get? e = some u)
 (new : bZ X.prog X.w (upd H x o) h' x o) : Inv X pins σ (upd H x o) { s with heap:=h',toks:=t' }:=I.un (Un.write mu he k heo) (I.ax.write mu he k heo new)
theorem Inv.weak {σ' : List (Option V)} (I : Inv X pins σ H s) (hl : σ'.length = σ.length) (w : ∀ (i : Nat) v,σ'[i]? = some (some v) → σ[i]? = some (some v)) : Inv X pins σ' H s :=
 ⟨I.ok,I.os,I.bare,I.base,let ⟨m,hn,hl'⟩:=I.loc; ⟨m,hn,fun i x v e1 e2 e3 => hl' i x v e1 (w i v e2) e3⟩,I.cell,I.free,I.eD,I.pin,I.ax,hl.trans I.len⟩
theorem Inv.Kb {pins' : List (Addr × Obj)} (I : Inv X pins σ H s) (h : ∀ p ∈ pins',s.heap.get? p.1 = some p.2 ∧ H p.1 = none ∧ p.1 ≠ X.env.locals ∧ p.1 ∉ X.fs ∧ ∀ v,p.2.data ≠ .cell v) : Inv X pins' σ H s :=
 ⟨I.ok,I.os,I.bare,I.base,I.loc,I.cell,I.free,I.eD,fun p hp => (List.mem_append.mp hp).elim (fun z => I.pin p (List.mem_append_left _ z)) (h p),I.ax,I.len⟩
theorem vV {N : List Str} (hN : N.Nodup) {i j : Nat} {x : Str} (a : N[i]? = some x) (b : N[j]? = some x) : i = j:=by
 obtain ⟨h1,e1⟩:=List.getElem?_eq_some_iff.mp a
 obtain ⟨h2,e2⟩:=List.getElem?_eq_some_iff.mp b
 exact (List.getElem_inj hN).mp (e1.trans e2.symm)
theorem Ud {M : Model} {A : Around} {E : Value → Shared → Prop} {i : Nat} {x : Str} {v : V} {u : Value} {Q : Unit → Shared → Prop} (I : Inv X pins σ H s) (hN : X.N.Nodup) (hi : X.N[i]? = some x) (hx : Loc X.env.scope x) (r : RelV v u)
 (h : ∀ s',Inv X pins (σ.set i (some v)) H s' → (∃ a,Heap.SameBut a s.heap s'.heap ∧ (a = X.env.locals ∨ X.env.cells.lookup x = some a)) → Q () s') (hf : X.fn x = true ∨ X.env.scope.names.lookup x = some .local:=by first | exact .inl rfl | exact .inr rfl | assumption) : wpAny M A (storeName X.env x u) Q E s:=by
 obtain ⟨m,hn,hl⟩:=id I.loc
 have hcls : (X.env.scope.kind == .class || (X.env.scope.kind == .module && X.env.locals != X.env.globals)) = false:=by rw [I.ok.kind]; rfl
 have hiσ : i < σ.length:=by rw [I.len]; exact (List.getElem?_eq_some_iff.mp hi).1
 have lH:=I.lH
 have tracked : ∀ {a : Addr} {h' : Heap},(∃ o,s.heap.get? a = some o ∧ H a = none) → Heap.SameBut a s.heap h' → bT X.prog X.w H h':=fun {a h'} ha hs b ob e => by
  obtain ⟨_,_,hfree⟩:=ha
  refine (I.ax b ob e).gc (fun c w' hc q => (hs.2 c ?_).trans q) (fun _ q => q) fun _ _ q => q
  rintro rfl
  rcases hc with rfl | hc
  ·rw [hfree] at e; cases e
  ·rw [hfree] at hc; cases hc
 rcases hx with hk | hk
 ·refine wpAny_storeName_local hk hn (fun h' hn' hs => ?_) hcls
  obtain ⟨oL,_,_,hoL,_⟩:=id hn
  refine h _ ⟨I.ok,I.os,I.bare,⟨fun b o e n hb hx => ?_,fun b o e n hb hx => ?_,I.base.free,fun b o e hx => ?_,I.base.ij,I.base.fD,I.base.ik⟩,⟨_,hn',fun j y v' e1 e2 e3 => ?_⟩,fun y c e => ?_,I.free,I.eD,fun p hp => ?_,tracked ⟨oL,hoL,I.free⟩ hs,by simpa using I.len⟩ ⟨_,hs,.inl rfl⟩
  ·exact (hs.2 b (Nat.ne_of_lt (Nat.lt_of_lt_of_le (Heap.lt_size e) I.ok.above))).trans (I.base.keep b o e n hb hx)
  ·obtain ⟨sl,e1⟩:=I.base.slot b o e n hb hx
   exact ⟨sl,(hs.2 b (Nat.ne_of_lt (Nat.lt_of_lt_of_le (Heap.lt_size e) I.ok.above))).trans e1⟩
  ·obtain ⟨o',e1⟩:=I.base.there b o e hx
   exact ⟨o',(hs.2 b (Nat.ne_of_lt (Nat.lt_of_lt_of_le (Heap.lt_size e) I.ok.above))).trans e1⟩
  ·by_cases hj : j = i
   ·subst hj
    rw [hi] at e1; cases e1
    rw [List.getElem?_set_self hiσ] at e2
    cases e2
    exact ⟨u,r,.inl ⟨hk,by simp⟩⟩
   ·rw [List.getElem?_set_ne (Ne.symm hj)] at e2
    obtain ⟨u',r',q⟩:=hl j y v' e1 e2 e3
    refine ⟨u',r',?_⟩
    rcases q with ⟨k,e⟩ | ⟨k,c,e,z⟩
    ·refine .inl ⟨k,?_⟩
     have : y ≠ x:=fun e => hj (vV hN e1 (e ▸ hi))
     simp [this,e]
    ·exact .inr ⟨k,c,e,z.sameBut hs (lH y c e)⟩
  ·obtain ⟨w',z⟩:=I.cell y c e
   exact ⟨w',z.sameBut hs (lH y c e)⟩
  ·obtain ⟨e,n,ne,nf,d⟩:=I.pin p hp
   exact ⟨(hs.2 p.1 ne).trans e,n,ne,nf,d⟩
 ·have hfn : X.fn x = true:=by
   rcases hf with z | z
   ·exact z
   ·rw [z] at hk; cases hk
  obtain ⟨c,hc⟩:=I.ok.has x (.inl hk)
  obtain ⟨w',z⟩:=I.cell x c hc
  refine wpAny_storeName_cell I.ok.kind hk hc z (fun h' hc' hs => ?_)
  obtain ⟨oc,hoc,hocd⟩:=id z
  refine h { s with heap:=h' } ⟨I.ok,I.os,I.bare,⟨fun b o e n hb hx => ?_,fun b o e n hb hx => ?_,I.base.free,fun b o e hx => ?_,I.base.ij,I.base.fD,I.base.ik⟩,⟨m,hn.sameBut hs (Ne.symm (lH x c hc)),fun j y v' e1 e2 e3 => ?_⟩,fun y c' e => ?_,I.free,I.eD,fun p hp => ?_,tracked ⟨oc,hoc,I.eD x c hc⟩ hs,by simpa using I.len⟩ ⟨c,hs,.inr hc⟩
  ·exact (hs.2 b (Nat.ne_of_lt (Nat.lt_of_lt_of_le (Heap.lt_size e) (I.ok.n8 x c hfn hc)))).trans (I.base.keep b o e n hb hx)
  ·obtain ⟨sl,e1⟩:=I.base.slot b o e n hb hx
   exact ⟨sl,(hs.2 b (Nat.ne_of_lt (Nat.lt_of_lt_of_le (Heap.lt_size e) (I.ok.n8 x c hfn hc)))).trans e1⟩
  ·obtain ⟨o',e1⟩:=I.base.there b o e hx
   exact ⟨o',(hs.2 b (Nat.ne_of_lt (Nat.lt_of_lt_of_le (Heap.lt_size e) (I.ok.n8 x c hfn hc)))).trans e1⟩
  ·by_cases hj : j = i
   ·subst hj
    rw [hi] at e1; cases e1
    rw [List.getElem?_set_self hiσ] at e2
    cases e2
    exact ⟨u,r,.inr ⟨.inl hk,c,hc,hc'⟩⟩
   ·rw [List.getElem?_set_ne (Ne.symm hj)] at e2
    obtain ⟨u',r',q⟩:=hl j y v' e1 e2 e3
    refine ⟨u',r',?_⟩
    rcases q with q | ⟨k,c',e,z'⟩
    ·exact .inl q
    ·refine .inr ⟨k,c',e,z'.sameBut hs ?_⟩
     rintro rfl
     exact hj (vV hN e1 (I.ok.inj _ _ _ e hc ▸ hi))
  ·by_cases hcc : c' = c
   ·subst hcc; exact ⟨_,hc'⟩
   ·obtain ⟨w2,z2⟩:=I.cell y c' e
    exact ⟨w2,z2.sameBut hs hcc⟩
  ·obtain ⟨e,n,ne,nf,d⟩:=I.pin p hp
   refine ⟨(hs.2 p.1 ?_).trans e,n,ne,nf,d⟩
   intro q
   rw [q,hoc] at e
   have q' : oc = p.2:=Option.some.inj e
   exact d w' (by rw [← q']; exact hocd)
theorem GY {M : Model} {A : Around} {E : Value → Shared → Prop} {i : Nat} {x : Str} {v : V} {u : Value} {Q : Unit → Shared → Prop} (I : Inv X pins σ H s) (hN : X.N.Nodup) (hi : X.N[i]? = some x) (hx : Loc X.env.scope x) (r : RelV v u)
 (h : ∀ s',Inv X pins (σ.set i (some v)) H s' → Q () s') (hf : X.fn x = true ∨ X.env.scope.names.lookup x = some .local:=by first | exact .inl rfl | exact .inr rfl | assumption) : wpAny M A (storeName X.env x u) Q E s :=
 Ud I hN hi hx r (fun s' I' _ => h s' I') hf
theorem Inv.adJ {s' : Shared} {ch : List Addr} (I : Inv X pins σ H s) (ho : s'.os = s.os) (u : Un (fE X.stack) ch H H' s.heap s'.heap) (ax : bT X.prog X.w H' s'.heap) (hg : AllBare s'.gens)
 (hch : ∀ b ∈ ch,(b ∈ X.ex ∨ X.cV.heap.objs.size ≤ b) ∧ b ≠ X.env.locals ∧ (∀ x c,X.env.cells.lookup x = some c → c ≠ b) ∧ ∀ p ∈ X.pn ++ pins,p.1 ≠ b) : Inv X pins σ H' s':=by
 obtain ⟨h',g',d',t',o'⟩:=s'
 have e : o' = s.os:=ho
 subst e
 exact I.call (g':=g') (t':=t') (d':=d') u ax hg hch
end
abbrev XK:=Value → Option Addr → Hp → Prop
abbrev St:=List (Option V)
abbrev VK:=V → Hp → Prop
abbrev TE:=St → Hp → VK → Prop
abbrev TT:=St → Hp → (Bool → Hp → Prop) → Prop
abbrev TA:=St → Hp → (List V → Hp → Prop) → Prop
structure Ends where
 nx : St → Hp → Prop
 rt : VK
 bk : St → Hp → Prop:=fun _ _ => False
 ct : St → Hp → Prop:=fun _ _ => False
abbrev TS:=Ends → St → Hp → Prop
def EP (X : Cx) (pins : List (Addr × Obj)) (σ : St) (Q : VK) (u : Value) (s' : Shared) : Prop:=∃ v H',Inv X pins σ H' s' ∧ RelV v u ∧ Q v H'
def TP (X : Cx) (pins : List (Addr × Obj)) (σ : St) (Q : Bool → Hp → Prop) (b : Bool) (s' : Shared) : Prop:=∃ H',Inv X pins σ H' s' ∧ Q b H'
def AP (X : Cx) (pins : List (Addr × Obj)) (σ : St) (Q : List V → Hp → Prop) (us : List Value) (s' : Shared) : Prop:=∃ vs H',Inv X pins σ H' s' ∧ Vals vs us ∧ Q vs H'
def SP (X : Cx) (pins : List (Addr × Obj)) (D : Ends) (f : Flow) (s' : Shared) : Prop :=
 match f with
 | .next => ∃ σ' H',Inv X pins σ' H' s' ∧ D.nx σ' H'
 | .brk => ∃ σ' H',Inv X pins σ' H' s' ∧ D.bk σ' H'
 | .cont => ∃ σ' H',Inv X pins σ' H' s' ∧ D.ct σ' H'
 | .ret u => ∃ v σ' H',Inv X pins σ' H' s' ∧ RelV v u ∧ D.rt v H'
def PE (X : Cx) (e : Expr) (t : TE) : Prop :=
 ∀ (pins : List (Addr × Obj)) (s : Shared) (σ : St) (H : Hp) (Q : VK),Inv X pins σ H s → t σ H Q → wpAny (model X.prog X.w) X.A (eval e X.env) (EP X pins σ Q) X.xe s
def PT (X : Cx) (e : Expr) (t : TT) : Prop :=
 ∀ (pins : List (Addr × Obj)) (s : Shared) (σ : St) (H : Hp) (Q : Bool → Hp → Prop),Inv X pins σ H s → t σ H Q → wpAny (model X.prog X.w) X.A (isTrue e X.env (eval e X.env)) (TP X pins σ Q) X.xe s
def PW (X : Cx) (e : Expr) (t : TT) : Prop :=
 ∀ (whole : Sem Value) (pins : List (Addr × Obj)) (s : Shared) (σ : St) (H : Hp) (Q : Bool → Hp → Prop),Inv X pins σ H s → t σ H Q → wpAny (model X.prog X.w) X.A (isTrue e X.env whole) (TP X pins σ Q) X.xe s
theorem PW.pt {X : Cx} {e : Expr} {t : TT} (h : PW X e t) : PT X e t:=h _
def PA (X : Cx) (es : List Expr) (t : TA) : Prop :=
 ∀ (pos : Pos) (pins : List (Addr × Obj)) (s : Shared) (σ : St) (H : Hp) (Q : List V → Hp → Prop),Inv X pins σ H s → t σ H Q → wpAny (model X.prog X.w) X.A (spliced (backTo pos (starEach es X.env))) (AP X pins σ Q) X.xe s
def PS (X : Cx) (st : Stmt) (t : TS) : Prop :=
 ∀ (pins : List (Addr × Obj)) (s : Shared) (σ : St) (H : Hp) (D : Ends),Inv X pins σ H s → t D σ H → wpAny (model X.prog X.w) X.A (exec st X.env) (SP X pins D) X.xe s
def eG (X : Cx) (st : List Stmt) (t : TS) : Prop :=
 ∀ (pins : List (Addr × Obj)) (s : Shared) (σ : St) (H : Hp) (D : Ends),Inv X pins σ H s → t D σ H → wpAny (model X.prog X.w) X.A (execs st X.env) (SP X pins D) X.xe s
theorem aJ {α : Type} {t : Sem α} {Q Q' : α → Shared → Prop} {M : Model} {A : Around} {E : Value → Shared → Prop} {s : Shared} (h : wpAny M A t Q E s) (hQ : ∀ a s,Q a s → Q' a s) : wpAny M A t Q' E s:=wpAny_mono h hQ fun _ _ x => x
end L2
namespace L2
open PySem PySem.Spec PyProof.Rows
section
variable {X : Cx}
def oV (i : Nat) : TE:=fun σ H Q => ∃ v,σ[i]? = some (some v) ∧ Q v H
def tC (v : V) : TE:=fun _ H Q => Q v H
theorem XD {i : Nat} {x : Str} {pos : Pos} (hN : X.N[i]? = some x) (hv : ow X.env.scope x) (hd : (x == ("__debug__" : Str)) = false:=by decide) (hcd : (x == ("__classdict__" : Str)) = false:=by decide) : PE X (.Name x pos) (oV i):=by
 intro pins s σ H Q I h
 obtain ⟨v,e,h⟩:=h
 obtain ⟨m,hn,hl⟩:=I.loc
 obtain ⟨u,r,l⟩:=hl i x v hN e hv
 have fin : EP X pins σ Q u s:=⟨v,H,I,r,h⟩
 rcases l with ⟨hk,hm⟩ | ⟨hk,c,hc,hcell⟩
 ·exact wpAny_Name (wpAny_loadName_local I.ok.kind hk hn hm fin) hd
 ·rcases hk with hk | hk
  ·exact wpAny_Name (wpAny_loadName_cell I.ok.kind hk hc hcell fin) hd
  ·exact wpAny_Name (wpAny_loadName_free I.ok.kind hk hc hcell fin hcd) hd
theorem ay {i j pos} : PE X (.Constant (.int i) j pos) (tC (.int i)):=fun _ _ _ H _ I h => wpAny_Constant_int ⟨.int i,H,I.tok _,⟨_,rfl⟩,h⟩
theorem jC {b j pos} : PE X (.Constant (.bool b) j pos) (tC (.bl b)):=fun _ _ _ H _ I h => Constant_bool ⟨.bl b,H,I,rfl,h⟩
theorem dA {j pos} : PE X (.Constant .none j pos) (tC .aC):=fun _ _ _ H _ I h => Constant_none ⟨.aC,H,I,rfl,h⟩
theorem XF {x j pos} : PE X (.Constant (.str x) j pos) (tC (.str x)):=fun _ _ _ H _ I h => Calls.Constant_str ⟨.str x,H,I.tok _,⟨_,rfl⟩,h⟩
def Gl (X : Cx) (x : Str) : Prop:=X.env.kindOf x = some .globalImplicit
theorem qp {E : Value → Shared → Prop} {pins : List (Addr × Obj)} {s : Shared} {σ : St} {H : Hp} {x : Str} {u : Value} {pos : Pos} {Q : Value → Shared → Prop} (I : Inv X pins σ H s) (hg : Gl X x) (hm : X.mg x = some u) (h : Q u s)
 (hd : (x == ("__debug__" : Str)) = false:=by decide) : wpAny (model X.prog X.w) X.A (eval (.Name x pos) X.env) Q E s :=
 Calls.Name_function_global I.ok.kind hg (Calls.loadGlobal_global (by rw [I.ok.glob]; exact I.mod.glob.keeps I.bk) hm h) hd
theorem nT {E : Value → Shared → Prop} {pins : List (Addr × Obj)} {s : Shared} {σ : St} {H : Hp} {x : Str} {u : Value} {pos : Pos} {Q : Value → Shared → Prop} (I : Inv X pins σ H s) (hg : Gl X x) (hm : X.mg x = none) (hv : bootBuiltins x = some u) (h : Q u s)
 (hn : x ≠ "__name__":=by decide) (hd : (x == ("__debug__" : Str)) = false:=by decide) : wpAny (model X.prog X.w) X.A (eval (.Name x pos) X.env) Q E s:=by
 obtain ⟨mb,h1,h2⟩:=I.mod.blt
 exact Calls.Name_function_global I.ok.kind hg (Calls.loadGlobal_builtin (by rw [I.ok.glob]; exact I.mod.glob.keeps I.bk) hm (by rw [I.ok.blt]; exact h1.keeps I.bk) ((h2 x hn).trans hv) h) hd
theorem fv {x : Str} {v : V} {u : Value} {pos : Pos} (hg : Gl X x) (hm : X.mg x = some u) (r : RelV v u) (hd : (x == ("__debug__" : Str)) = false:=by decide) : PE X (.Name x pos) (tC v) :=
 fun _ _ _ H _ I h => qp I hg hm ⟨v,H,I,r,h⟩ hd
variable {a b : Expr} {ta tb : TE} {pos : Pos}
def PC (X : Cx) (op : CmpOp) (a b : Expr) (t : TE) : Prop :=
 ∀ (pins : List (Addr × Obj)) (s : Shared) (σ : St) (H : Hp) (Q : VK),Inv X pins σ H s → t σ H Q →
  wpAny (model X.prog X.w) X.A (eval a X.env) (fun v s₁ => wpAny (model X.prog X.w) X.A (eval b X.env) (fun u s₂ => wpAny (model X.prog X.w) X.A (compareOp op v u) (EP X pins σ Q) X.xe s₂) X.xe s₁) X.xe s
def tB (t : TE) : TT:=fun σ H Q => t σ H fun x H1 => ∃ c,x = .bl c ∧ Q c H1
theorem XN {op : CmpOp} {t : TE} (h : PC X op a b t) (h1 : behindInMarks op b = false:=by first | exact aaR _ (by decide) (by decide) | rfl) : PE X (.Compare a [op] [b] pos) t:=fun pins s σ H Q I hw => wpAny_Compare1 (h pins s σ H Q I hw) h1
theorem m4 {op : CmpOp} {t : TE} (h : PC X op a b t) (h1 : behindInMarks op b = false:=by first | exact aaR _ (by decide) (by decide) | rfl) : PT X (.Compare a [op] [b] pos) (tB t):=by
 intro pins s σ H Q I hw
 refine wpAny_isTrue_Compare1 (aJ (h pins s σ H _ I hw) fun v s1 h1 => aJ h1 fun u s2 h2 => aJ h2 fun c s3 ⟨x,H1,I1,r1,q1⟩ => ?_) h1
 obtain ⟨d,rfl,q⟩:=q1
 cases r1
 exact wpAny_truthy_bool ⟨H1,I1,q⟩
theorem de {e : Expr} {t : TE} (h : PE X e t) (he : ∀ whole,isTrue e X.env whole = (do let v ← whole; standAt e.pos; holding [v] (truthy v)):=by intro _; rfl) : PT X e (tB t):=by
 intro pins s σ H Q I hw
 refine isTrue_plain (aJ (h pins s σ H _ I hw) fun v s1 ⟨x,H1,I1,r1,q1⟩ => ?_) (he _)
 obtain ⟨d,rfl,q⟩:=q1
 cases r1
 exact wpAny_truthy_bool ⟨H1,I1,q⟩
variable {tA tB' : TT} {rest : List Expr}
def Ua (t u : TT) : TT:=fun σ H Q => t σ H fun c H1 => if c = true then u σ H1 Q else Q false H1
def Tz (t u : TT) : TT:=fun σ H Q => t σ H fun c H1 => if c = true then Q true H1 else u σ H1 Q
def TC (t : TT) : TT:=fun σ H Q => t σ H fun c H1 => Q (!c) H1
theorem mY (ha : PT X a tA) : PW X (.BoolOp .And [a] pos) tA:=by
 intro wh pins s σ H Q I h
 refine isTrue_and (aJ (ha pins s σ H Q I h) fun c s1 e => ?_)
 cases c with
 | true => exact isTrue_and_nil e
 | false => exact e
theorem o8 (ha : PT X a tA) : PW X (.BoolOp .Or [a] pos) tA:=by
 intro wh pins s σ H Q I h
 refine isTrue_or (aJ (ha pins s σ H Q I h) fun c s1 e => ?_)
 cases c with
 | false => exact isTrue_or_nil e
 | true => exact e
theorem mZ (ha : PT X a tA) (hb : PW X (.BoolOp .And (b :: rest) pos) tB') : PW X (.BoolOp .And (a :: b :: rest) pos) (Ua tA tB'):=by
 intro wh pins s σ H Q I h
 refine isTrue_and (aJ (ha pins s σ H _ I h) fun c s1 ⟨H1,I1,q1⟩ => ?_)
 cases c with
 | true => exact hb wh pins s1 σ H1 Q I1 q1
 | false => exact ⟨H1,I1,q1⟩
theorem mX (ha : PT X a tA) (hb : PW X (.BoolOp .Or (b :: rest) pos) tB') : PW X (.BoolOp .Or (a :: b :: rest) pos) (Tz tA tB'):=by
 intro wh pins s σ H Q I h
 refine isTrue_or (aJ (ha pins s σ H _ I h) fun c s1 ⟨H1,I1,q1⟩ => ?_)
 cases c with
 | true => exact ⟨H1,I1,q1⟩
 | false => exact hb wh pins s1 σ H1 Q I1 q1
theorem gp (ha : PT X a tA) : PT X (.UnaryOp .Not a pos) (TC tA):=by
 intro pins s σ H Q I h
 exact isTrue_not (ha pins s σ H (fun c H1 => Q (!c) H1) I h)
def T9 (ta tb : TE) : TE:=fun σ H Q => ta σ H fun x H1 => ∃ c,x = .bl c ∧ if c = true then tb σ H1 Q else Q (.bl false) H1
def Tx (ta tb : TE) : TE:=fun σ H Q => ta σ H fun x H1 => ∃ c,x = .bl c ∧ if c = true then Q (.bl true) H1 else tb σ H1 Q
def TB (ta : TE) : TE:=fun σ H Q => ta σ H fun x H1 => ∃ c,x = .bl c ∧ Q (.bl (!c)) H1
theorem uT {op} {t : TE} (h : PE X a t) : PE X (.BoolOp op [a] pos) t:=fun pins s σ H Q I hw => BoolOp_one (h pins s σ H Q I hw)
theorem Kj (ha : PE X a ta) (hb : PE X (.BoolOp .And (b :: rest) pos) tb) : PE X (.BoolOp .And (a :: b :: rest) pos) (T9 ta tb):=by
 intro pins s σ H Q I h
 refine BoolOp_and (aJ (ha pins s σ H _ I h) fun v s1 ⟨x,H1,I1,r1,q1⟩ => ?_)
 obtain ⟨c,rfl,q1⟩:=q1
 cases r1
 refine wpAny_truthy_bool ?_
 cases c with
 | true => exact hb pins s1 σ H1 Q I1 q1
 | false => exact ⟨.bl false,H1,I1,rfl,q1⟩
theorem XG (ha : PE X a ta) (hb : PE X (.BoolOp .Or (b :: rest) pos) tb) : PE X (.BoolOp .Or (a :: b :: rest) pos) (Tx ta tb):=by
 intro pins s σ H Q I h
 refine BoolOp_or (aJ (ha pins s σ H _ I h) fun v s1 ⟨x,H1,I1,r1,q1⟩ => ?_)
 obtain ⟨c,rfl,q1⟩:=q1
 cases r1
 refine wpAny_truthy_bool ?_
 cases c with
 | false => exact hb pins s1 σ H1 Q I1 q1
 | true => exact ⟨.bl true,H1,I1,rfl,q1⟩
theorem Kf (ha : PE X a ta) : PE X (.UnaryOp .Not a pos) (TB ta):=by
 intro pins s σ H Q I h
 refine UnaryOp_ (aJ (ha pins s σ H _ I h) fun v s1 ⟨x,H1,I1,r1,q1⟩ => ?_)
 obtain ⟨c,rfl,q1⟩:=q1
 cases r1
 exact not_of (wpAny_truthy_bool ⟨.bl (!c),H1,I1,rfl,q1⟩)
def TR (t : TT) (ta tb : TE) : TE:=fun σ H Q => t σ H fun c H1 => if c = true then ta σ H1 Q else tb σ H1 Q
theorem lZ {c : Expr} (hc : PT X c tA) (ha : PE X a ta) (hb : PE X b tb) : PE X (.IfExp c a b pos) (TR tA ta tb):=by
 intro pins s σ H Q I h
 refine wpAny_IfExp (aJ (hc pins s σ H _ I h) fun d s1 ⟨H1,I1,q1⟩ => ?_)
 cases d with
 | true => exact ha pins s1 σ H1 Q I1 q1
 | false => exact hb pins s1 σ H1 Q I1 q1
end
end L2
namespace L2
open PySem PySem.Spec PyProof.Rows
def az (K : PySem.W.Frag) (H : Hp) (a : Addr) (xs : List V) : Prop :=
 Rd H a (.lst xs) ∨
  ∃ (o : Obj) (its : Array Value) (n : Nat),K.lookup a = some o ∧ o.cls = .type "list" ∧ o.dict = none ∧ o.data = .seq its n ∧ its.size ≤ sizeLine ∧ Vals xs its.toList
def a4 (K : PySem.W.Frag) (H : Hp) (a : Addr) (xs : List V) : Prop :=
 Rd H a (.tup xs) ∨
  ∃ (o : Obj) (its : Array Value) (n : Nat),K.lookup a = some o ∧ o.cls = .type "tuple" ∧ o.data = .seq its n ∧ its.size ≤ sizeLine ∧ Vals xs its.toList
def aeW : Value → Option V
 | .none => some .aC
 | .bool b => some (.bl b)
 | .int i _ => some (.int i)
 | .str x _ => some (.str x)
 | .bytes b _ => some (.dF b)
 | .float b _ => some (.bF b)
 | .ref a => some (.ref a)
 | .type n => some (.ty n)
 | _ => none
theorem RelV.abs {x : V} {u : Value} (r : RelV x u) : aeW u = some x:=by
 cases x with
 | aC => cases r; rfl
 | bl _ => cases r; rfl
 | int _ => obtain ⟨t,rfl⟩:=r; rfl
 | str _ => obtain ⟨t,rfl⟩:=r; rfl
 | dF _ => obtain ⟨t,rfl⟩:=r; rfl
 | bF _ => obtain ⟨t,rfl⟩:=r; rfl
 | ref _ => cases r; rfl
 | ty _ => cases r; rfl
theorem RelV.inj {x y : V} {u : Value} (r : RelV x u) (q : RelV y u) : x = y:=Option.some.inj (r.abs.symm.trans q.abs)
theorem Vals.inj : ∀ {xs ys : List V} {us : List Value},Vals xs us → Vals ys us → xs = ys
 | _,_,_,.nil,.nil => rfl
 | _,_,_,.cons r t,.cons r' t' => by rw [r.inj r',Vals.inj t t']
section
variable {X : Cx} {pins : List (Addr × Obj)} {σ : St} {H : Hp} {s : Shared} {a : Addr} {xs ys : List V}
theorem az.of {K : PySem.W.Frag} (h : H a = some (.lst xs)) : az K H a xs:=.inl (.inl h)
theorem a4.of {K : PySem.W.Frag} (h : H a = some (.tup xs)) : a4 K H a xs:=.inl (.inl h)
theorem Inv.list (I : Inv X pins σ H s) (h : az X.K H a xs) : ∃ its : List Value,Vals xs its ∧ PlainL s.heap a its.toArray ∧ xs.length ≤ sizeLine:=by
 rcases h with h | ⟨o,its,n,hk,hc,hd,hs,hz,r⟩
 ·obtain ⟨z,its,n,r,e⟩:=h.ok I.ax
  exact ⟨its,r,⟨_,n,e,rfl,rfl,rfl⟩,z⟩
 ·refine ⟨its.toList,r,⟨o,n,I.dj a o hk,hc,hd,by simpa using hs⟩,?_⟩
  have e:=r.length
  simp only [Array.length_toList] at e
  omega
theorem Inv.tuple (I : Inv X pins σ H s) (h : a4 X.K H a xs) : ∃ its : List Value,Vals xs its ∧ IsTup s.heap a its.toArray ∧ xs.length ≤ sizeLine:=by
 rcases h with h | ⟨o,its,n,hk,hc,hs,hz,r⟩
 ·obtain ⟨z,its,r,p⟩:=h.ok I.ax
  exact ⟨its,r,p,z⟩
 ·refine ⟨its.toList,r,⟨o,I.dj a o hk,hc,n,by simpa using hs⟩,?_⟩
  have e:=r.length
  simp only [Array.length_toList] at e
  omega
theorem Inv.Lu (I : Inv X pins σ H s) (h : az X.K H a xs) (h' : az X.K H a ys) : xs = ys:=by
 obtain ⟨its,r,⟨o,n,e,_,_,d⟩,_⟩:=I.list h
 obtain ⟨its',r',⟨o',n',e',_,_,d'⟩,_⟩:=I.list h'
 rw [e] at e'; cases e'
 rw [d] at d'
 injection d' with d1 _
 have : its = its':=by simpa using congrArg Array.toList d1
 subst this
 exact r.inj r'
end
abbrev Cx.gb (X : Cx) (E : Value → Shared → Prop) : Cx:={ X with xe:=E }
abbrev Cx.pZ (X : Cx) : Cx:=X.gb fun _ _ => False
theorem Cx.Ok.gb {X : Cx} (ok : X.Ok) (E : Value → Shared → Prop) : (X.gb E).Ok :=
 ⟨ok.mod,ok.kind,ok.glob,ok.blt,ok.above,ok.inj,ok.has,ok.n8,ok.hd,ok.frames,ok.oZ,ok.qz,ok.bs,ok.kb,ok.nJ,ok.nY,ok.eT,ok.lE⟩
theorem Cx.Ok.ku {X : Cx} {E : Value → Shared → Prop} (ok : (X.gb E).Ok) : X.Ok :=
 ⟨ok.mod,ok.kind,ok.glob,ok.blt,ok.above,ok.inj,ok.has,ok.n8,ok.hd,ok.frames,ok.oZ,ok.qz,ok.bs,ok.kb,ok.nJ,ok.nY,ok.eT,ok.lE⟩
section
variable {X : Cx} {pins : List (Addr × Obj)} {σ : St} {H : Hp} {s : Shared} {E : Value → Shared → Prop}
theorem Inv.gb (I : Inv X pins σ H s) (E : Value → Shared → Prop) : Inv (X.gb E) pins σ H s:=⟨I.ok.gb E,I.os,I.bare,I.base,I.loc,I.cell,I.free,I.eD,I.pin,I.ax,I.len⟩
theorem Inv.ku (I : Inv (X.gb E) pins σ H s) : Inv X pins σ H s:=⟨I.ok.ku,I.os,I.bare,I.base,I.loc,I.cell,I.free,I.eD,I.pin,I.ax,I.len⟩
theorem SP.ku {D : Ends} {f : Flow} {s' : Shared} (h : SP (X.gb E) pins D f s') : SP X pins D f s':=by
 cases f with
 | next => obtain ⟨σ',H',I,q⟩:=h; exact ⟨σ',H',I.ku,q⟩
 | brk => obtain ⟨σ',H',I,q⟩:=h; exact ⟨σ',H',I.ku,q⟩
 | cont => obtain ⟨σ',H',I,q⟩:=h; exact ⟨σ',H',I.ku,q⟩
 | ret u => obtain ⟨v,σ',H',I,r,q⟩:=h; exact ⟨v,σ',H',I.ku,r,q⟩
theorem eG.pZ {st : List Stmt} {t : TS} (h : eG X.pZ st t) : eG X st t:=fun pins s σ H D I hw =>
 wpAny_mono (h pins s σ H D (I.gb _) hw) (fun _ _ q => q.ku) fun _ _ z => False.elim z
end
section
variable {X : Cx} {st : Stmt} {rest : List Stmt} {t u : TS} {e : Expr} {te : TE} {pos : Pos}
def TH : TS:=fun D σ H => D.nx σ H
def Tu (t u : TS) : TS:=fun D σ H => t { D with nx:=u D } σ H
theorem bH : eG X [] TH:=fun _ _ σ H _ I h => wpAny_execs_nil ⟨σ,H,I,h⟩
theorem au (h1 : PS X st t) (h2 : eG X rest u) : eG X (st :: rest) (Tu t u):=by
 intro pins s σ H D I h
 refine wpAny_execs_cons (aJ (h1 pins s σ H { D with nx:=u D } I h) fun f s1 q => ?_)
 cases f with
 | next =>
   obtain ⟨σ',H',I',q⟩:=q
   exact h2 pins s1 σ' H' D I' q
 | ret v => exact q
 | brk => exact q
 | cont => exact q
theorem ah (h1 : PS X st t) : eG X [st] t:=by
 intro pins s σ H D I h
 refine wpAny_execs_cons (aJ (h1 pins s σ H D I h) fun f s1 q => ?_)
 cases f with
 | next => exact wpAny_execs_nil q
 | ret v => exact q
 | brk => exact q
 | cont => exact q
theorem Inv.quiet {pins : List (Addr × Obj)} {σ : St} {H : Hp} {s : Shared} (I : Inv X pins σ H s) : interactive X.env = false:=by simp [interactive,I.ok.kind]
def TX (te : TE) : TS:=fun D σ H => te σ H fun _ H1 => D.nx σ H1
theorem bB (he : PE X e te) (hs : swapsWith e none pos.line X.env = pure false:=by rfl) : PS X (.Expr e pos) (TX te):=by
 intro pins s σ H D I h
 exact wpAny_Expr_any (aJ (he pins s σ H _ I h) fun v s1 ⟨x,H1,I1,r1,q1⟩ => ⟨σ,H1,I1,q1⟩) I.quiet hs
def Tv (te : TE) : TS:=fun D σ H => te σ H D.rt
theorem aT (he : PE X e te) : PS X (.Return (some e) pos) (Tv te):=by
 intro pins s σ H D I h
 exact wpAny_Return_some (aJ (he pins s σ H _ I h) fun v s1 ⟨x,H1,I1,r1,q1⟩ => ⟨x,σ,H1,I1,r1,q1⟩)
def TQ (c : TT) (t u : TS) : TS:=fun D σ H => c σ H fun b H1 => if b = true then t D σ H1 else u D σ H1
theorem bo {c : Expr} {a b : List Stmt} {tc : TT} (hc : PT X c tc) (ha : eG X a t) (hb : eG X b u) : PS X (.If c a b pos) (TQ tc t u):=by
 intro pins s σ H D I h
 refine wpAny_If (aJ (hc pins s σ H _ I h) fun d s1 ⟨H1,I1,q1⟩ => ?_)
 cases d with
 | true => exact ha pins s1 σ H1 D I1 q1
 | false => exact hb pins s1 σ H1 D I1 q1
end
abbrev TG:=V → St → Hp → (St → Hp → Prop) → Prop
abbrev lJ:=List V → St → Hp → (St → Hp → Prop) → Prop
def PG (X : Cx) (target : Expr) (t : TG) : Prop :=
 ∀ (pins : List (Addr × Obj)) (s : Shared) (σ : St) (H : Hp) (v : V) (u : Value) (Q : St → Hp → Prop),Inv X pins σ H s → RelV v u → t v σ H Q →
  wpAny (model X.prog X.w) X.A (assign target X.env u) (fun _ s' => ∃ σ' H',Inv X pins σ' H' s' ∧ Q σ' H') X.xe s
def sP (X : Cx) (ts : List Expr) (t : lJ) : Prop :=
 ∀ (pins : List (Addr × Obj)) (s : Shared) (σ : St) (H : Hp) (vs : List V) (us : List Value) (Q : St → Hp → Prop),Inv X pins σ H s → Vals vs us → t vs σ H Q →
  wpAny (model X.prog X.w) X.A (assignInOrder ((assignEach ts X.env).map (·.2)) us) (fun _ s' => ∃ σ' H',Inv X pins σ' H' s' ∧ Q σ' H') X.xe s
section
variable {X : Cx} {pos : Pos}
def Np (i : Nat) : TG:=fun v σ H Q => Q (σ.set i (some v)) H
theorem ck {i : Nat} {x : Str} (hN : X.N.Nodup) (hi : X.N[i]? = some x) (hx : Loc X.env.scope x) (hf : X.fn x = true ∨ X.env.scope.names.lookup x = some .local:=by first | exact .inl rfl | exact .inr rfl | assumption) : PG X (.Name x pos) (Np i):=by
 intro pins s σ H v u Q I r h
 exact wpAny_assign_Name (GY I hN hi hx r (fun s' I' => ⟨_,H,I',h⟩) hf)
def acU : lJ:=fun vs σ H Q => vs = [] ∧ Q σ H
def acV (t : TG) (u : lJ) : lJ:=fun vs σ H Q => ∃ v r,vs = v :: r ∧ t v σ H fun σ' H' => u r σ' H' Q
theorem k7 : sP X [] acU:=by
 intro pins s σ H vs us Q I r h
 obtain ⟨e,h⟩:=h
 subst e
 cases r
 exact assignInOrder_nil ⟨σ,H,I,h⟩
theorem dW {e : Expr} {es : List Expr} {t : TG} {u : lJ} (h1 : PG X e t) (h2 : sP X es u)
 (hs : (assignEach (e :: es) X.env).map (·.2) = assign e X.env :: (assignEach es X.env).map (·.2):=by rfl) : sP X (e :: es) (acV t u):=by
 intro pins s σ H vs us Q I r h
 obtain ⟨v,vr,e1,h⟩:=h
 subst e1
 cases r with
 | cons r rr =>
   rw [hs]
   refine assignInOrder_cons (aJ (h1 pins s σ H _ _ _ I r h) fun _ s1 ⟨σ1,H1,I1,q1⟩ => ?_)
   exact h2 pins s1 σ1 H1 _ _ Q I1 rr q1
def acT (K : PySem.W.Frag) (n : Nat) (t : lJ) : TG:=fun v σ H Q => ∃ a xs,v = .ref a ∧ a4 K H a xs ∧ xs.length = n ∧ t xs σ H Q
theorem k8 {es : List Expr} {k : Nat} {t : lJ} {n : Nat} (hc : X.calm = true) (h : sP X es t)
 (hn : (assignEach es X.env).length = n:=by rfl) (hst : (assignEach es X.env).findIdx? (·.1) = none:=by rfl) : PG X (.Tuple es k pos) (acT X.K n t):=by
 intro pins s σ H v u Q I r hw
 obtain ⟨a,xs,e1,hq,hl,hw⟩:=hw
 subst e1
 cases r
 obtain ⟨its,rv,ht,hz⟩:=I.tuple hq
 refine assign_Tuple_tuple (I.ok.hd hc) ht (by simp [hn,← hl,rv.length]) hst fun h' hx => ?_
 have I1 : Inv X pins σ H { s with heap:=h' }:=I.kept (t':=s.toks) fun b o e => hx b o (Nat.ne_of_lt (Heap.lt_size e)) e
 exact h pins _ σ H xs _ Q I1 (by simpa using rv) hw
def T8 (te : TE) (g : TG) : TS:=fun D σ H => te σ H fun x H1 => g x σ H1 D.nx
theorem bI {i : Nat} {x : Str} {e : Expr} {te : TE} {pos' : Pos} (hN : X.N.Nodup) (hi : X.N[i]? = some x) (hx : Loc X.env.scope x) (he : PE X e te) (hs : swapsWith e (some (.Name x pos')) pos.line X.env = pure false:=by rfl) (hf : X.fn x = true ∨ X.env.scope.names.lookup x = some .local:=by first | exact .inl rfl | exact .inr rfl | assumption) :
 PS X (.Assign [.Name x pos'] e pos) (T8 te (Np i)):=by
 intro pins s σ H D I h
 refine wpAny_Assign_Name (aJ (he pins s σ H _ I h) fun v s1 ⟨y,H1,I1,r1,q1⟩ => ?_) hs
 exact GY I1 hN hi hx r1 (fun s2 I2 => ⟨_,H1,I2,q1⟩) hf
end
section
variable {X : Cx} {pos : Pos}
def GR (c : TT) (tb : TS) : TS:=fun D σ H => ∃ W : Nat → St → Hp → Prop,(∃ m,W m σ H) ∧ ∀ m σ H,W m σ H →
 c σ H fun b H1 => if b = true then ∃ N : St → Hp → Prop,(∀ σ' H',N σ' H' → ∃ m',m' < m ∧ W m' σ' H') ∧ tb { D with nx:=N,ct:=N,bk:=D.nx } σ H1 else D.nx σ H1
theorem IQ {c : Expr} {body : List Stmt} {tc : TT} {tb : TS} (hp : PassesOwn (model X.prog X.w) X.A X.env X.xe) (hc : PT X c tc) (hb : eG X body tb) : PS X (.While c body [] pos) (GR tc tb):=by
 intro pins s σ H D I h
 obtain ⟨W,⟨m0,w0⟩,turn⟩:=h
 refine wpAny_While (codeAny_whileLoop (fun n s' => ∃ σ' H',Inv X pins σ' H' s' ∧ W n σ' H') ?_ m0 ⟨σ,H,I,w0⟩)
 rintro n s1 ⟨σ1,H1,I1,w1⟩
 refine wpAny_passesOwn hp (aJ (hc pins s1 σ1 H1 _ I1 (turn n σ1 H1 w1)) fun b s2 ⟨H2,I2,q2⟩ => ?_)
 cases b with
 | true =>
   obtain ⟨N,hN,q2⟩:=q2
   rw [if_pos rfl]
   refine wpAny_passesOwn hp (aJ (hb pins s2 σ1 H2 _ I2 q2) fun f s3 q3 => ?_)
   cases f with
   | next =>
     obtain ⟨σ3,H3,I3,n3⟩:=q3
     obtain ⟨m',hm,w3⟩:=hN σ3 H3 n3
     exact ⟨m',hm,σ3,H3,I3,w3⟩
   | cont =>
     obtain ⟨σ3,H3,I3,n3⟩:=q3
     obtain ⟨m',hm,w3⟩:=hN σ3 H3 n3
     exact ⟨m',hm,σ3,H3,I3,w3⟩
   | brk => exact q3
   | ret v => exact q3
 | false =>
   rw [if_neg Bool.false_ne_true]
   exact wpAny_execs_nil ⟨σ1,H2,I2,q2⟩
end
structure It where
 go : Nat → Hp → Prop
 e9 : Nat → Hp → V → Hp → Prop
 stop : Nat → Hp → Prop
def eX (X : Cx) (pins : List (Addr × Obj)) (H : Hp) (b : Addr) : Prop :=
 H b = none ∧ b ≠ X.env.locals ∧ b ∉ X.fs ∧ (b ∈ X.ex ∨ X.cV.heap.objs.size ≤ b) ∧ (∀ x c,X.env.cells.lookup x = some c → c ≠ b) ∧ ∀ p ∈ X.pn ++ pins,p.1 ≠ b
theorem Inv.nW {X : Cx} {pins : List (Addr × Obj)} {σ : St} {H H' : Hp} {s : Shared} {b : Addr} (I : Inv X pins σ H s) (hb : s.heap.objs.size ≤ b) (hn : H' b = none) : eX X pins H' b:=by
 refine ⟨hn,Nat.ne_of_gt (Nat.lt_of_lt_of_le I.lt hb),I.aaO hb,.inr (Nat.le_trans I.sz hb),fun x c e z => ?_,fun p hp z => ?_⟩
 ·obtain ⟨v,q⟩:=I.cell x c e
  exact absurd (Nat.lt_of_lt_of_le q.lt (by rw [z]; exact hb)) (Nat.lt_irrefl _)
 ·exact absurd (Nat.lt_of_lt_of_le (Heap.lt_size (I.pin p hp).1) (by rw [z]; exact hb)) (Nat.lt_irrefl _)
structure Turn (P : Program) (w : World) (K : PySem.W.Frag) (tg : Expr) (J : It) (fp : List Addr) (it : Addr) (tn : Nat → Heap → Prop) : Prop where
 mem : it ∈ fp
 obj : ∀ i h,tn i h → ∀ b ∈ fp,∃ o,h.get? b = some o ∧ ∀ v,o.data ≠ .cell v
 keep : ∀ i h h',tn i h → (∀ b ∈ fp,∀ o,h.get? b = some o → h'.get? b = some o) → tn i h'
 item : ∀ (X : Cx),X.prog = P → X.w = w → X.K = K → X.calm = true → ∀ (i : Nat) (pins : List (Addr × Obj)) (s : Shared) (σ : St) (H : Hp) (E : Value → Shared → Prop),Inv X pins σ H s → (∀ b ∈ fp,eX X pins H b) → tn i s.heap → J.go i H →
  wpAny (model P w) X.A (pyNext (.ref it)) (fun r s1 => ∃ u,r = some u ∧
   wpAny (model P w) X.A (letOwnedTupleGo tg (.ref it) u) (fun _ s2 => ∃ x H',Inv X pins σ H' s2 ∧ RelV x u ∧ J.e9 i H x H' ∧ tn (i + 1) s2.heap ∧ ∀ b ∈ fp,H' b = none) E s1) E s
 done : ∀ (X : Cx),X.prog = P → X.w = w → X.K = K → X.calm = true → ∀ (i : Nat) (pins : List (Addr × Obj)) (s : Shared) (σ : St) (H : Hp) (E : Value → Shared → Prop),Inv X pins σ H s → (∀ b ∈ fp,eX X pins H b) → tn i s.heap → J.stop i H →
  wpAny (model P w) X.A (pyNext (.ref it)) (fun r s1 => r = none ∧ Inv X pins σ H s1) E s
 self : ∀ (A : Around) (i : Nat) (s : Shared) (Q : Value → Shared → Prop) (E : Value → Shared → Prop),tn i s.heap → Q (.ref it) s → wpAny (model P w) A (pyIter (.ref it)) Q E s
abbrev TI:=St → Hp → (It → Hp → Prop) → Prop
def sO (X : Cx) (pins : List (Addr × Obj)) (σ : St) (tg : Expr) (R : It → Hp → Prop) (itv : Value) (s2 : Shared) : Prop :=
 ∃ (it : Addr) (fp : List Addr) (tn : Nat → Heap → Prop) (J : It) (H' : Hp),itv = .ref it ∧ Inv X pins σ H' s2 ∧ Turn X.prog X.w X.K tg J fp it tn ∧ tn 0 s2.heap ∧ (∀ b ∈ fp,eX X pins H' b) ∧ R J H'
def PI (X : Cx) (tg iter : Expr) (wi : TI) : Prop :=
 ∀ (pins : List (Addr × Obj)) (s : Shared) (σ : St) (H : Hp) (R : It → Hp → Prop),Inv X pins σ H s → wi σ H R →
  wpAny (model X.prog X.w) X.A (eval iter X.env) (fun v s1 => wpAny (model X.prog X.w) X.A (pyIter v) (sO X pins σ tg R) X.xe s1) X.xe s
theorem qy {M : Model} {A : Around} {E : Value → Shared → Prop} {s : Shared} {tg : Expr} {it : Addr} {u : Value} {o : Obj} {n : String} {vs : Array Value} {Q : Unit → Shared → Prop} (ho : s.heap.get? it = some o) (hc : o.cls = .type n) (hd : o.data = .fields vs)
 (hn : ["enumerate","zip","dict_itemiterator","dict_reverseitemiterator","odict_iterator","itertools.zip_longest","itertools.pairwise"].contains n = false) (hQ : Q () s) : wpAny M A (letOwnedTupleGo tg (.ref it) u) Q E s:=by
 unfold letOwnedTupleGo
 cases tg <;> first
  | exact wpAny_pure hQ
  | (cases u <;> first
   | exact wpAny_pure hQ
   | (refine wpAny_bind (wpAny_load ho ?_)
      rw [hc,hd]
      show wpAny M A (if (["enumerate","zip","dict_itemiterator","dict_reverseitemiterator","odict_iterator","itertools.zip_longest","itertools.pairwise"].contains n && vs[0]? == some (rawInt _)) = true then _ else _) Q E s
      rw [if_neg (by intro h; rw [hn,Bool.false_and] at h; cases h)]
      exact wpAny_pure hQ))
def kY (K : PySem.W.Frag) (a : Addr) : It :=
 ⟨fun i H => ∃ xs x,az K H a xs ∧ xs[i]? = some x,fun i H x H' => H' = H ∧ ∀ xs,az K H a xs → xs[i]? = some x,fun i H => ∃ xs,az K H a xs ∧ xs.length ≤ i⟩
theorem S8 {P : Program} {w : World} {K : PySem.W.Frag} {tg : Expr} (a it : Addr) : Turn P w K tg (kY K a) [it] it (fun i h => h.IsListIter it a i) where
 mem:=by simp
 obj:=fun i h st b hb => by
  have e : b = it:=by simpa using hb
  subst e
  obtain ⟨o,e,c,d⟩:=st
  exact ⟨o,e,fun v z => by rw [d] at z; cases z⟩
 keep:=fun i h h' st k => st.at fun o e => k it (by simp) o e
 item:=by
  intro X hP hw hK hc i pins s σ H E I hf st hg
  subst hP hw hK
  obtain ⟨xs,x,hq,hx⟩:=hg
  obtain ⟨its,rv,p,hz⟩:=I.list hq
  obtain ⟨u,hu,ru⟩:=rv.get hx
  obtain ⟨f0,f1,f2,f3,f4,f5⟩:=hf it (by simp)
  refine wpAny_pyNext_list_item st p.isList (x:=u) (by simpa using hu) fun h' st' sb => ?_
  have I1 : Inv X pins σ H { s with heap:=h' }:=I.turned (t':=s.toks) (fun b o hb e => (sb.2 b hb).trans e) f0 f1 f3 f4 f5
  obtain ⟨o,e,c,d⟩:=id st'
  exact ⟨u,rfl,qy (s:={ s with heap:=h' }) e c d (by decide) ⟨x,H,I1,ru,⟨rfl,fun ys hy => by rw [I.Lu hy hq]; exact hx⟩,st',fun b hb => (hf b hb).1⟩⟩
 done:=by
  intro X hP hw hK hc i pins s σ H E I hf st hg
  subst hP hw hK
  obtain ⟨xs,hq,hx⟩:=hg
  obtain ⟨its,rv,p,hz⟩:=I.list hq
  obtain ⟨f0,f1,f2,f3,f4,f5⟩:=hf it (by simp)
  have hl:=rv.length
  exact wpAny_pyNext_list_end (I.ok.hd hc) st p.isList (by simp; omega) fun h' eb => ⟨rfl,I.turned (t':=s.toks) (fun b o hb e => eb b o hb e) f0 f1 f3 f4 f5⟩
 self:=fun _ _ _ _ _ st h => wpAny_pyIter_listiter st h
end L2
namespace L2
open PySem PySem.Spec PyProof.Rows
section
variable {X : Cx} {tg : Expr}
def abH (K : PySem.W.Frag) (tl : TE) : TI:=fun σ H R => tl σ H fun x H1 => ∃ a,x = .ref a ∧ (∃ xs,az K H1 a xs) ∧ R (kY K a) H1
theorem fu {l : Expr} {tl : TE} (hl : PE X l tl) : PI X tg l (abH X.K tl):=by
 intro pins s σ H R I h
 refine aJ (hl pins s σ H _ I h) fun v s1 ⟨x,H1,I1,r1,q1⟩ => ?_
 obtain ⟨a,e,⟨xs,hq⟩,q⟩:=q1
 subst e
 cases r1
 obtain ⟨its,rv,p,hz⟩:=I1.list hq
 refine wpAny_pyIter_list p.isList ?_
 refine ⟨s1.heap.objs.size,[s1.heap.objs.size],_,_,H1,rfl,I1.kept (t':=s1.toks) fun b o e => Heap.get?_push_of_some _ e,S8 a _,⟨_,Heap.get?_push_size _ rfl,rfl,rfl⟩,fun b hb => ?_,q⟩
 have e : b = s1.heap.objs.size:=by simpa using hb
 subst e
 exact I1.nW (Nat.le_refl _) (I1.ax.fresh (Nat.le_refl _))
def TV (wi : TI) (g : TG) (tb : TS) : TS:=fun D σ H => wi σ H fun J H1 => ∃ W : Nat → Nat → St → Hp → Prop,(∃ m,W 0 m σ H1) ∧ ∀ i m σ H,W i m σ H →
 (J.stop i H ∧ D.nx σ H) ∨ (J.go i H ∧ ∃ N : St → Hp → Prop,(∀ σ' H',N σ' H' → ∃ m',m' < m ∧ W (i + 1) m' σ' H') ∧ ∀ x H',J.e9 i H x H' → g x σ H' fun σ2 H2 => tb { D with nx:=N,ct:=N,bk:=D.nx } σ2 H2)
def m5 (fp : List Addr) (h : Heap) : List (Addr × Obj):=fp.filterMap fun b => (h.get? b).map fun o => (b,o)
theorem wV {fp : List Addr} {h : Heap} {b : Addr} {o : Obj} (hb : b ∈ fp) (e : h.get? b = some o) : (b,o) ∈ m5 fp h:=List.mem_filterMap.mpr ⟨b,hb,by rw [e]; rfl⟩
theorem Ys {fp : List Addr} {h : Heap} {p : Addr × Obj} (hp : p ∈ m5 fp h) : p.1 ∈ fp ∧ h.get? p.1 = some p.2:=by
 obtain ⟨b,hb,e⟩:=List.mem_filterMap.mp hp
 cases q : h.get? b with
 | none => rw [q] at e; cases e
 | some o =>
   rw [q] at e
   have e' : (b,o) = p:=Option.some.inj e
   subst e'
   exact ⟨hb,q⟩
theorem Inv.pinned {pins : List (Addr × Obj)} {σ : St} {H : Hp} {s : Shared} {fp : List Addr} (I : Inv X pins σ H s) (hf : ∀ b ∈ fp,eX X pins H b) (ho : ∀ b ∈ fp,∃ o,s.heap.get? b = some o ∧ ∀ v,o.data ≠ .cell v) : Inv X (pins ++ m5 fp s.heap) σ H s :=
 I.Kb fun p hp => (List.mem_append.mp hp).elim (fun z => I.pin p (List.mem_append_right _ z)) fun z => by
  obtain ⟨hb,e⟩:=Ys z
  obtain ⟨f0,f1,f2,_⟩:=hf p.1 hb
  obtain ⟨o,e',d⟩:=ho p.1 hb
  rw [e] at e'; cases e'
  exact ⟨e,f0,f1,f2,d⟩
theorem Inv.oQ {pins pl : List (Addr × Obj)} {σ : St} {H : Hp} {s : Shared} (I : Inv X (pins ++ pl) σ H s) : Inv X pins σ H s:=I.Kb fun p hp => I.pin p (List.mem_append_right _ (List.mem_append_left _ hp))
theorem dz {iter : Expr} {body : List Stmt} {wi : TI} {g : TG} {tb : TS} {pos : Pos} (hp : PassesOwn (model X.prog X.w) X.A X.env X.xe) (hc : X.calm = true) (hi : PI X tg iter wi) (hg : PG X tg g) (hb : eG X body tb)
 (hs : ∀ x,foldedSetIterable iter X.env x = pure x:=by intro _; rfl) : PS X (.For tg iter body [] pos) (TV wi g tb):=by
 intro pins s σ H D I h
 refine wpAny_For (aJ (hi pins s σ H _ I h) fun v s1 h1 => aJ h1 fun itv s2 h2 => ?_) hs
 obtain ⟨it,fp,tn,J,H2,e,I2,T,st2,f2,W,⟨m0,w0⟩,turn⟩:=h2
 subst e
 have stat : ∀ {H' : Hp},(∀ b ∈ fp,H' b = none) → ∀ b ∈ fp,eX X pins H' b:=fun hn b hb => ⟨hn b hb,(f2 b hb).2⟩
 refine codeAny_forLoop_any (fun n s' => ∃ i σ' H',Inv X pins σ' H' s' ∧ tn i s'.heap ∧ (∀ b ∈ fp,H' b = none) ∧ W i n σ' H') ?_ m0 ⟨0,σ,H2,I2,st2,fun b hb => (f2 b hb).1,w0⟩
 rintro n s3 ⟨i,σ3,H3,I3,st3,fr3,w3⟩
 rcases turn i n σ3 H3 w3 with ⟨stop,qn⟩ | ⟨go,N,hN,step⟩
 ·refine wpAny_passesOwn hp (aJ (T.done X rfl rfl rfl hc i pins s3 σ3 H3 X.xe I3 (stat fr3) st3 stop) fun r s4 ⟨hr,I4⟩ => ?_)
  subst hr
  exact wpAny_execs_nil ⟨σ3,H3,I4,qn⟩
 ·refine wpAny_passesOwn hp (aJ (T.item X rfl rfl rfl hc i pins s3 σ3 H3 X.xe I3 (stat fr3) st3 go) fun r s4 ⟨u,hr,h4⟩ => ?_)
  subst hr
  refine wpAny_passesOwn hp (aJ h4 fun _ s5 ⟨x,H5,I5,r5,y5,st5,fr5⟩ => ?_)
  have I5':=I5.pinned (stat fr5) (T.obj _ _ st5)
  refine wpAny_passesOwn hp (aJ (hg _ s5 σ3 H5 x u _ I5' r5 (step x H5 y5)) fun _ s6 ⟨σ6,H6,I6,q6⟩ => ?_)
  refine wpAny_passesOwn hp (aJ (hb _ s6 σ6 H6 _ I6 q6) fun f s7 q7 => ?_)
  have again : ∀ {σ7 : St} {H7 : Hp},Inv X (pins ++ m5 fp s5.heap) σ7 H7 s7 → N σ7 H7 → ∃ m,m < n ∧ ∃ i σ' H',Inv X pins σ' H' s7 ∧ tn i s7.heap ∧ (∀ b ∈ fp,H' b = none) ∧ W i m σ' H':=fun {σ7 H7} I7 n7 => by
   obtain ⟨m',hm,w7⟩:=hN σ7 H7 n7
   refine ⟨m',hm,i + 1,σ7,H7,I7.oQ,T.keep _ _ _ st5 fun b hb o e => (I7.pin (b,o) (List.mem_append_right _ (List.mem_append_right _ (wV hb e)))).1,fun b hb => ?_,w7⟩
   obtain ⟨o,e,d⟩:=T.obj _ _ st5 b hb
   exact (I7.pin (b,o) (List.mem_append_right _ (List.mem_append_right _ (wV hb e)))).2.1
  cases f with
  | next => obtain ⟨σ7,H7,I7,n7⟩:=q7; exact again I7 n7
  | cont => obtain ⟨σ7,H7,I7,n7⟩:=q7; exact again I7 n7
  | brk => obtain ⟨σ7,H7,I7,q7⟩:=q7; exact ⟨σ7,H7,I7.oQ,q7⟩
  | ret v => obtain ⟨x7,σ7,H7,I7,r7,q7⟩:=q7; exact ⟨x7,σ7,H7,I7.oQ,r7,q7⟩
end
theorem jQ {K : PySem.W.Frag} {a : Addr} {xs : List V} {g : TG} {tb : TS} {D : Ends} {σ : St} {H : Hp} (Pv : Nat → St → Hp → Prop) (h0 : Pv 0 σ H) (hl : ∀ i σ H,i ≤ xs.length → Pv i σ H → az K H a xs)
 (hs : ∀ i x σ H,xs[i]? = some x → Pv i σ H → g x σ H fun σ2 H2 => tb { D with nx:=Pv (i + 1),ct:=Pv (i + 1),bk:=D.nx } σ2 H2) (hd : ∀ σ H,Pv xs.length σ H → D.nx σ H) :
 ∃ W : Nat → Nat → St → Hp → Prop,(∃ m,W 0 m σ H) ∧ ∀ i m σ H,W i m σ H →
  ((kY K a).stop i H ∧ D.nx σ H) ∨ ((kY K a).go i H ∧ ∃ N : St → Hp → Prop,(∀ σ' H',N σ' H' → ∃ m',m' < m ∧ W (i + 1) m' σ' H') ∧ ∀ x H',(kY K a).e9 i H x H' → g x σ H' fun σ2 H2 => tb { D with nx:=N,ct:=N,bk:=D.nx } σ2 H2):=by
 refine ⟨fun i m σ H => m = xs.length - i ∧ i ≤ xs.length ∧ Pv i σ H,⟨xs.length,by simp,Nat.zero_le _,h0⟩,?_⟩
 rintro i m σ H ⟨rfl,hi,p⟩
 have q:=hl i σ H hi p
 by_cases hlt : i < xs.length
 ·refine .inr ⟨⟨xs,xs[i],q,by simp [hlt]⟩,Pv (i + 1),fun σ' H' p' => ⟨xs.length - (i + 1),by omega,rfl,hlt,p'⟩,fun x H' y => ?_⟩
  obtain ⟨e,y⟩:=y
  subst e
  exact hs i x σ _ (y xs q) p
 ·have e : i = xs.length:=by omega
  subst e
  exact .inl ⟨⟨xs,q,Nat.le_refl _⟩,hd σ H p⟩
theorem FU {c : TT} {tb : TS} {D : Ends} {σ : St} {H : Hp} (Pv : St → Hp → Prop) (μ : St → Hp → Nat) (h0 : Pv σ H)
 (hs : ∀ σ H,Pv σ H → c σ H fun b H1 => if b = true then tb { D with nx:=fun σ' H' => Pv σ' H' ∧ μ σ' H' < μ σ H,ct:=fun σ' H' => Pv σ' H' ∧ μ σ' H' < μ σ H,bk:=D.nx } σ H1 else D.nx σ H1)
 (mono : ∀ σ H Q Q',(∀ b H1,Q b H1 → Q' b H1) → c σ H Q → c σ H Q') : GR c tb D σ H:=by
 refine ⟨fun m σ H => m = μ σ H ∧ Pv σ H,⟨_,rfl,h0⟩,?_⟩
 rintro m σ H ⟨rfl,p⟩
 refine mono σ H _ _ (fun b H1 q => ?_) (hs σ H p)
 cases b with
 | true => exact ⟨_,fun σ' H' ⟨p',l⟩ => ⟨_,l,rfl,p'⟩,q⟩
 | false => exact q
end L2
namespace L2
open PySem PySem.Spec PyProof.Rows
abbrev R2:=V → V → Hp → VK → Prop
def c9 (X : Cx) (f : Value → Value → Sem Value) (r : R2) : Prop :=
 ∀ (pins : List (Addr × Obj)) (s : Shared) (σ : St) (H : Hp) (x y : V) (v u : Value) (Q : VK),Inv X pins σ H s → RelV x v → RelV y u → r x y H Q →
  wpAny (model X.prog X.w) X.A (f v u) (EP X pins σ Q) X.xe s
def EU (X : Cx) (f : Value → Sem Value) (r : V → Hp → VK → Prop) : Prop :=
 ∀ (pins : List (Addr × Obj)) (s : Shared) (σ : St) (H : Hp) (x : V) (v : Value) (Q : VK),Inv X pins σ H s → RelV x v → r x H Q →
  wpAny (model X.prog X.w) X.A (f v) (EP X pins σ Q) X.xe s
def ic (X : Cx) (f : Value) (r : List V → Hp → VK → Prop) : Prop :=
 ∀ (pins : List (Addr × Obj)) (s : Shared) (σ : St) (H : Hp) (xs : List V) (us : List Value) (Q : VK),Inv X pins σ H s → Vals xs us → r xs H Q →
  wpAny (model X.prog X.w) X.A (call f us) (EP X pins σ Q) X.xe s
def oW (r : R2) (ta tb : TE) : TE:=fun σ H Q => ta σ H fun x H1 => tb σ H1 fun y H2 => r x y H2 Q
def Tq (r : V → Hp → VK → Prop) (ta : TE) : TE:=fun σ H Q => ta σ H fun x H1 => r x H1 Q
def rI (C : Int → Int → Prop) (g : Int → Int → V) : R2:=fun x y H Q => ∃ i j,x = .int i ∧ y = .int j ∧ C i j ∧ Q (g i j) H
def kz (g : Int → Int → V) : R2:=fun x y H Q => ∃ i j,x = .int i ∧ y = .int j ∧ Q (g i j) H
def rU (g : Int → V) : V → Hp → VK → Prop:=fun x H Q => ∃ i,x = .int i ∧ Q (g i) H
section
variable {X : Cx} {a b c : Expr} {ta tb tc : TE} {pos : Pos}
theorem Dt (ha : PE X a ta) (hb : PE X b tb) {pins : List (Addr × Obj)} {s : Shared} {σ : St} {H : Hp} {R : V → V → Hp → Prop} (I : Inv X pins σ H s)
 (h : ta σ H fun x H1 => tb σ H1 fun y H2 => R x y H2) {Q : Value → Shared → Prop} {f : Value → Value → Sem Value}
 (hf : ∀ v u s2 x y H2,Inv X pins σ H2 s2 → RelV x v → RelV y u → R x y H2 → wpAny (model X.prog X.w) X.A (f v u) Q X.xe s2) :
 wpAny (model X.prog X.w) X.A (eval a X.env) (fun v s₁ => wpAny (model X.prog X.w) X.A (eval b X.env) (fun u s₂ => wpAny (model X.prog X.w) X.A (f v u) Q X.xe s₂) X.xe s₁) X.xe s:=by
 refine aJ (ha pins s σ H _ I h) fun v s1 ⟨x,H1,I1,r1,q1⟩ => ?_
 refine aJ (hb pins s1 σ H1 _ I1 q1) fun u s2 ⟨y,H2,I2,r2,q2⟩ => ?_
 exact hf v u s2 x y H2 I2 r1 r2 q2
theorem cW {op : Operator} {r : R2} (ho : c9 X (binaryOp op) r) (ha : PE X a ta) (hb : PE X b tb) : PE X (.BinOp a op b pos) (oW r ta tb):=by
 intro pins s σ H Q I h
 exact wpAny_BinOp (Dt ha hb I h fun v u s2 x y H2 I2 rx ry q => ho pins s2 σ H2 x y v u Q I2 rx ry q)
theorem XE {op : UnaryOp} {r : V → Hp → VK → Prop} (ho : EU X (unaryOp op) r) (ha : PE X a ta) : PE X (.UnaryOp op a pos) (Tq r ta):=by
 intro pins s σ H Q I h
 exact UnaryOp_ (aJ (ha pins s σ H _ I h) fun v s1 ⟨x,H1,I1,r1,q1⟩ => ho pins s1 σ H1 x v Q I1 r1 q1)
theorem XT {f : Value → Value → Sem Value} {C : Int → Int → Prop} {g : Int → Int → Int}
 (rule : ∀ (i j : Int) (t u : Tok) (s : Shared) (Q : Value → Shared → Prop) (E : Value → Shared → Prop),C i j → Q (.int (g i j) s.toks) { s with toks:=s.toks + 1 } → wpAny (model X.prog X.w) X.A (f (.int i t) (.int j u)) Q E s) :
 c9 X f (rI C fun i j => .int (g i j)):=by
 intro pins s σ H x y v u Q I rx ry h
 obtain ⟨i,j,rfl,rfl,hc,q⟩:=h
 obtain ⟨t,rfl⟩:=rx
 obtain ⟨t',rfl⟩:=ry
 exact rule i j t t' s _ _ hc ⟨.int (g i j),H,I.tok _,⟨_,rfl⟩,q⟩
theorem Kn {f : Value → Value → Sem Value} {g : Int → Int → Int}
 (rule : ∀ (i j : Int) (t u : Tok) (s : Shared) (Q : Value → Shared → Prop) (E : Value → Shared → Prop),Q (.int (g i j) s.toks) { s with toks:=s.toks + 1 } → wpAny (model X.prog X.w) X.A (f (.int i t) (.int j u)) Q E s) :
 c9 X f (kz fun i j => .int (g i j)):=by
 intro pins s σ H x y v u Q I rx ry h
 obtain ⟨i,j,rfl,rfl,q⟩:=h
 obtain ⟨t,rfl⟩:=rx
 obtain ⟨t',rfl⟩:=ry
 exact rule i j t t' s _ _ ⟨.int (g i j),H,I.tok _,⟨_,rfl⟩,q⟩
theorem pW {f : Value → Value → Sem Value} {g : Int → Int → Bool}
 (rule : ∀ (i j : Int) (t u : Tok) (s : Shared) (Q : Value → Shared → Prop) (E : Value → Shared → Prop),Q (.bool (g i j)) s → wpAny (model X.prog X.w) X.A (f (.int i t) (.int j u)) Q E s) :
 c9 X f (kz fun i j => .bl (g i j)):=by
 intro pins s σ H x y v u Q I rx ry h
 obtain ⟨i,j,rfl,rfl,q⟩:=h
 obtain ⟨t,rfl⟩:=rx
 obtain ⟨t',rfl⟩:=ry
 exact rule i j t t' s _ _ ⟨.bl (g i j),H,I,rfl,q⟩
def FQ (i j : Int) : Prop:=(-(2 ^ 64) < i ∧ i < 2 ^ 64) ∨ (-(2 ^ 64) < j ∧ j < 2 ^ 64)
theorem FQ.ok {i j : Int} (h : FQ i j) : IntMulOk i j:=by
 rcases h with ⟨h1,h2⟩ | ⟨h1,h2⟩
 ·exact .of_left (intBits_le_64 h1 h2)
 ·exact .of_right (intBits_le_64 h1 h2)
theorem jD : c9 X (binaryOp .Add) (kz fun i j => .int (i + j)):=Kn fun _ _ _ _ _ _ _ q => add_int q
theorem lb : c9 X (binaryOp .Sub) (kz fun i j => .int (i - j)):=Kn fun _ _ _ _ _ _ _ q => sub_int q
theorem XR : c9 X (binaryOp .Mult) (rI FQ fun i j => .int (i * j)):=XT fun _ _ _ _ _ _ _ hc q => mul_int q hc.ok
theorem SX {f : Value → Sem Value} {g : Int → Int}
 (rule : ∀ (i : Int) (t : Tok) (s : Shared) (Q : Value → Shared → Prop) (E : Value → Shared → Prop),Q (.int (g i) s.toks) { s with toks:=s.toks + 1 } → wpAny (model X.prog X.w) X.A (f (.int i t)) Q E s) :
 EU X f (rU fun i => .int (g i)):=by
 intro pins s σ H x v Q I rx h
 obtain ⟨i,rfl,q⟩:=h
 obtain ⟨t,rfl⟩:=rx
 exact rule i t s _ _ ⟨.int (g i),H,I.tok _,⟨_,rfl⟩,q⟩
theorem SW : EU X (unaryOp .USub) (rU fun i => .int (-i)):=SX fun _ _ _ _ _ q => neg_int q
end
def G9 : V → V → Bool
 | .aC,.aC => true | .aC,.int _ => true | .int _,.aC => true | .aC,.bl _ => true | .bl _,.aC => true | .aC,.str _ => true | .str _,.aC => true
 | .int _,.int _ => true | .bl _,.bl _ => true | .str _,.str _ => true | .dF _,.dF _ => true
 | .int _,.str _ => true | .str _,.int _ => true | .bl _,.str _ => true | .str _,.bl _ => true
 | _,_ => false
def Xi : R2:=fun x y H Q => G9 x y = true ∧ Q (.bl (decide (x = y))) H
def Xd : R2:=fun x y H Q => G9 x y = true ∧ Q (.bl (!decide (x = y))) H
theorem NO {i j : Int} : decide (V.int i = V.int j) = (i == j):=by
 rw [Bool.eq_iff_iff]
 simp
theorem NQ {i j : Bool} : decide (V.bl i = V.bl j) = (i == j):=by
 rw [Bool.eq_iff_iff]
 simp
theorem NL {i j : Str} : decide (V.str i = V.str j) = (i == j):=by
 rw [Bool.eq_iff_iff]
 simp
theorem NP {i j : Array UInt8} : decide (V.dF i = V.dF j) = (i.toList == j.toList):=by
 rw [Bool.eq_iff_iff]
 cases i
 cases j
 simp
section
variable {X : Cx} {a b c : Expr} {ta tb tc : TE} {pos : Pos}
theorem b7 {pins : List (Addr × Obj)} {σ : St} {H : Hp} {s : Shared} {Q : VK} {k k' : Bool} (I : Inv X pins σ H s) (q : Q (.bl k) H) (e : k = k') : EP X pins σ Q (.bool k') s:=by
 subst e
 exact ⟨.bl k,H,I,rfl,q⟩
theorem eA : c9 X (compareOp .Eq) Xi:=by
 intro pins s σ H x y v u Q I rx ry h
 obtain ⟨hs,q⟩:=h
 cases x with
 | aC =>
   cases rx
   cases y with
   | aC => cases ry; exact PySem.EqNone.eq_none_none (b7 I q (by simp))
   | bl j => cases ry; exact PySem.EqNone.eq_none_bool (b7 I q (by simp))
   | int j => obtain ⟨t',rfl⟩:=ry; exact PySem.EqNone.eq_none_int (b7 I q (by simp))
   | str j => obtain ⟨t',rfl⟩:=ry; exact PySem.EqNone.eq_none_str (b7 I q (by simp))
   | _ => exact absurd (show false = true from hs) Bool.false_ne_true
 | bl i =>
   cases rx
   cases y with
   | aC => cases ry; exact PySem.EqNone.eq_bool_none (b7 I q (by simp))
   | bl j => cases ry; exact eq_bool (b7 I q NQ)
   | str j => obtain ⟨t',rfl⟩:=ry; exact PySem.EqMixed.eq_bool_str (b7 I q (by simp))
   | _ => exact absurd (show false = true from hs) Bool.false_ne_true
 | int i =>
   obtain ⟨t,rfl⟩:=rx
   cases y with
   | aC => cases ry; exact PySem.EqNone.eq_int_none (b7 I q (by simp))
   | int j => obtain ⟨t',rfl⟩:=ry; exact eq_int (b7 I q NO)
   | str j => obtain ⟨t',rfl⟩:=ry; exact PySem.EqMixed.eq_int_str (b7 I q (by simp))
   | _ => exact absurd (show false = true from hs) Bool.false_ne_true
 | str i =>
   obtain ⟨t,rfl⟩:=rx
   cases y with
   | aC => cases ry; exact PySem.EqNone.eq_str_none (b7 I q (by simp))
   | bl j => cases ry; exact PySem.EqMixed.eq_str_bool (b7 I q (by simp))
   | int j => obtain ⟨t',rfl⟩:=ry; exact PySem.EqMixed.eq_str_int (b7 I q (by simp))
   | str j => obtain ⟨t',rfl⟩:=ry; exact eq_str (b7 I q NL)
   | _ => exact absurd (show false = true from hs) Bool.false_ne_true
 | dF i =>
   obtain ⟨t,rfl⟩:=rx
   cases y with
   | dF j => obtain ⟨t',rfl⟩:=ry; exact PySem.W.eq_bytes (b7 I q NP)
   | _ => exact absurd (show false = true from hs) Bool.false_ne_true
 | _ => cases y <;> exact absurd (show false = true from hs) Bool.false_ne_true
theorem nj : c9 X (compareOp .NotEq) Xd:=by
 intro pins s σ H x y v u Q I rx ry h
 obtain ⟨hs,q⟩:=h
 cases x with
 | aC =>
   cases rx
   cases y with
   | aC => cases ry; exact PySem.EqNone.ne_none_none (b7 I q (by simp))
   | bl j => cases ry; exact PySem.EqNone.ne_none_bool (b7 I q (by simp))
   | int j => obtain ⟨t',rfl⟩:=ry; exact PySem.EqNone.ne_none_int (b7 I q (by simp))
   | str j => obtain ⟨t',rfl⟩:=ry; exact PySem.EqNone.ne_none_str (b7 I q (by simp))
   | _ => exact absurd (show false = true from hs) Bool.false_ne_true
 | bl i =>
   cases rx
   cases y with
   | aC => cases ry; exact PySem.EqNone.ne_bool_none (b7 I q (by simp))
   | bl j => cases ry; exact ne_bool (b7 I q (congrArg not NQ))
   | str j => obtain ⟨t',rfl⟩:=ry; exact PySem.EqMixed.ne_bool_str (b7 I q (by simp))
   | _ => exact absurd (show false = true from hs) Bool.false_ne_true
 | int i =>
   obtain ⟨t,rfl⟩:=rx
   cases y with
   | aC => cases ry; exact PySem.EqNone.ne_int_none (b7 I q (by simp))
   | int j => obtain ⟨t',rfl⟩:=ry; exact ne_int (b7 I q (congrArg not NO))
   | str j => obtain ⟨t',rfl⟩:=ry; exact PySem.EqMixed.ne_int_str (b7 I q (by simp))
   | _ => exact absurd (show false = true from hs) Bool.false_ne_true
 | str i =>
   obtain ⟨t,rfl⟩:=rx
   cases y with
   | aC => cases ry; exact PySem.EqNone.ne_str_none (b7 I q (by simp))
   | bl j => cases ry; exact PySem.EqMixed.ne_str_bool (b7 I q (by simp))
   | int j => obtain ⟨t',rfl⟩:=ry; exact PySem.EqMixed.ne_str_int (b7 I q (by simp))
   | str j => obtain ⟨t',rfl⟩:=ry; exact ne_str (b7 I q (congrArg not NL))
   | _ => exact absurd (show false = true from hs) Bool.false_ne_true
 | dF i =>
   obtain ⟨t,rfl⟩:=rx
   cases y with
   | dF j => obtain ⟨t',rfl⟩:=ry; exact PySem.W.ne_bytes (b7 I q (congrArg not NP))
   | _ => exact absurd (show false = true from hs) Bool.false_ne_true
 | _ => cases y <;> exact absurd (show false = true from hs) Bool.false_ne_true
theorem lg : c9 X (compareOp .Lt) (kz fun i j => .bl (decide (i < j))):=pW fun _ _ _ _ _ _ _ q => lt_int q
theorem pU : c9 X (compareOp .LtE) (kz fun i j => .bl (decide (i ≤ j))):=pW fun _ _ _ _ _ _ _ q => le_int q
theorem nu : c9 X (compareOp .Gt) (kz fun i j => .bl (decide (j < i))):=pW fun _ _ _ _ _ _ _ q => gt_int q
theorem pV : c9 X (compareOp .GtE) (kz fun i j => .bl (decide (j ≤ i))):=pW fun _ _ _ _ _ _ _ q => ge_int q
theorem gu : c9 X (compareOp .Is) (fun x y H Q => y = .aC ∧ Q (.bl (decide (x = .aC))) H):=by
 intro pins s σ H x y v u Q I rx ry h
 obtain ⟨rfl,q⟩:=h
 cases ry
 refine is_none_gen (b7 I q ?_)
 cases x <;> first
  | (cases rx; rfl)
  | (obtain ⟨t,rfl⟩:=rx; rfl)
theorem bp (b : Expr) {op : CmpOp} (h : op ≠ .In:=by decide) (h2 : op ≠ .NotIn:=by decide) : behindInMarks op b = false:=by
 have e1 : (op == CmpOp.In) = false:=by cases op <;> first | rfl | exact absurd rfl h
 have e2 : (op == CmpOp.NotIn) = false:=by cases op <;> first | rfl | exact absurd rfl h2
 cases b <;> simp [behindInMarks,e1,e2]
theorem pf {op : CmpOp} {r : R2} (ho : c9 X (compareOp op) r) (ha : PE X a ta) (hb : PE X b tb) (hm : behindInMarks op b = false) : PE X (.Compare a [op] [b] pos) (oW r ta tb):=by
 intro pins s σ H Q I h
 exact wpAny_Compare1 (Dt ha hb I h fun v u s2 x y H2 I2 rx ry q => ho pins s2 σ H2 x y v u Q I2 rx ry q) hm
def Ts (t : TE) : TT:=fun σ H Q => t σ H fun x H' => ∃ k,x = .bl k ∧ Q k H'
theorem bz {op : CmpOp} {r : R2} (ho : c9 X (compareOp op) r) (ha : PE X a ta) (hb : PE X b tb) (hm : behindInMarks op b = false) : PT X (.Compare a [op] [b] pos) (Ts (oW r ta tb)):=by
 intro pins s σ H Q I h
 refine wpAny_isTrue_Compare1 (aJ (ha pins s σ H _ I h) fun v s1 ⟨x,H1,I1,r1,q1⟩ => aJ (hb pins s1 σ H1 _ I1 q1) fun u s2 ⟨y,H2,I2,r2,q2⟩ =>
  aJ (ho pins s2 σ H2 x y v u _ I2 r1 r2 q2) fun c s3 ⟨z,H3,I3,r3,k,e,q3⟩ => ?_) hm
 subst e
 cases r3
 exact wpAny_truthy_bool ⟨H3,I3,q3⟩
theorem qo : (sizeLine : Nat) < 2 ^ 63:=by rw [sizeLine_eq]; decide
theorem vals1 {x : V} {us : List Value} (r : Vals [x] us) : ∃ u,us = [u] ∧ RelV x u:=by
 cases r with
 | cons r1 r2 => cases r2; exact ⟨_,rfl,r1⟩
theorem QC : ic X (.type "str") (fun xs H Q => ∃ i,xs = [.int i] ∧ i.natAbs.log2 < 1920 ∧ Q (.str (toString i)) H):=by
 intro pins s σ H xs us Q I r h
 obtain ⟨i,rfl,hz,q⟩:=h
 obtain ⟨u,rfl,t,rfl⟩:=vals1 r
 exact PySem.P.str_of_int hz ⟨.str _,H,I.tok _,⟨_,rfl⟩,q⟩
theorem adF : ic X (.builtin "ord") (fun xs H Q => ∃ x,xs = [.str x] ∧ x.length = 1 ∧ Q (.int (x.cps.getD 0 0 : Nat)) H):=by
 intro pins s σ H xs us Q I r h
 obtain ⟨x,rfl,hz,q⟩:=h
 obtain ⟨u,rfl,t,rfl⟩:=vals1 r
 exact ord_of_one hz ⟨.int _,H,I.tok _,⟨_,rfl⟩,q⟩
end
end L2
namespace L2
open PySem PySem.Spec PyProof.Rows
structure lK (h : Heap) (x dx C : Addr) (mA : Str → Option Value) : Prop where
 obj : h.get? x = some (PySem.W.instObj C dx)
 ns : h.Ns1 dx mA
 ne : dx ≠ x
theorem abb {h : Heap} {dx : Addr} {mA : Str → Option Value} (n : h.Ns1 dx mA) : ∃ od,h.get? dx = some od ∧ ∀ name,PySem.W.lookIn name od = some (mA name):=by
 obtain ⟨o,es,ep,ho,hd,hk,_,hm⟩:=n
 refine ⟨o,ho,fun name => ?_⟩
 have e:=hm name
 unfold nsFind findBy at e
 rw [← Array.find?_toList] at e
 unfold PySem.W.lookIn
 rw [hd]
 dsimp only
 split
 ·rename_i y q
  rw [q] at e
  exact congrArg some e
 ·rename_i q
  rw [q] at e
  have a : es.toList.any (·.refKey) = false:=by
   rw [List.any_eq_false]
   intro y hy
   obtain ⟨z,t,hkey⟩:=hk y (Array.mem_toList_iff.mp hy)
   simp [DictEntry.refKey,hkey]
  have a' : ¬ es.toList.any (·.refKey) = true:=by rw [a]; exact Bool.false_ne_true
  rw [if_neg a']
  exact congrArg some e
theorem lK.look {h : Heap} {x dx C : Addr} {mA : Str → Option Value} (I : lK h x dx C mA) : ∃ od,PySem.W.InstAt h x (PySem.W.instObj C dx) C (some od) ∧ ∀ name,PySem.W.lookIn name od = some (mA name) :=
 let ⟨od,ho,hl⟩:=abb I.ns
 ⟨od,⟨I.obj,rfl,rfl,ho⟩,hl⟩
section
variable {prog : Program} {w : World} {A : Around} {E : Value → Shared → Prop} {s : Shared} {K : PySem.W.Frag} {x dx C f : Addr} {mA : Str → Option Value} {name : Str} {v : Value}
theorem get_map {expr : Bool} {Q : Value → Shared → Prop} (X : K.In s.heap) (I : lK s.heap x dx C mA) (hg : PySem.W.plainGet K C name = true) (hh : PySem.W.hasDictIn K C = true)
 (ha : PySem.W.findIn K (.ref C) name = some none) (hv : mA name = some v) (hv' : PySem.W.handedIn v = true) (h : Q v { s with toks:=s.toks + 1 }) :
 wpAny (model prog w) A (getAttr (.ref x) name expr) Q E s:=by
 obtain ⟨od,J,hl⟩:=I.look
 exact PySem.W.get_value X J (PySem.W.plainGet_of hg).1 (PySem.W.findObj_own hh ha rfl (by rw [hl,hv])) hv' h
theorem acy {pl : Sem Bool} {Q : Value × List Value → Shared → Prop} (X : K.In s.heap) (I : lK s.heap x dx C mA) (hg : PySem.W.plainGet K C name = true)
 (hf : PySem.W.findIn K (.ref C) name = some (some (.ref f))) (ht : PySem.W.isFn K (.ref f) = true) (hv : mA name = none) (h : Q (.ref f,[.ref x]) s) :
 wpAny (model prog w) A (getMethod (.ref x) name pl) Q E s:=by
 obtain ⟨od,J,hl⟩:=I.look
 exact PySem.W.method_fn X J (PySem.W.plainGet_of hg).1 (PySem.W.plainGet_of hg).2 hf (beq_iff_eq.mp ht) (by show (PySem.W.lookIn name od).map (·.isSome) = some false; rw [hl,hv]; rfl) h
theorem WM {ns : List Str} {Q : Unit → Shared → Prop} (X : K.In s.heap) (I : lK s.heap x dx C mA)
 (hs : PySem.W.findIn K (.ref C) "__setattr__" = some (some (.builtin "object.__setattr__"))) (hp : PySem.W.plainOver K C = true) (ht : PySem.W.takerIn K C name = some none) (hh : PySem.W.hasDictIn K C = true)
 (hw : PySem.Within mA ns) (hsz : ns.length ≤ sizeLine)
 (h : ∀ h',lK h' x dx C (fun y => if y = name then some v else mA y) → Heap.SameBut dx s.heap h' → Q () { s with heap:=h',toks:=s.toks + 2 }) :
 wpAny (model prog w) A (setAttr (.ref x) name v) Q E s:=by
 obtain ⟨od,J,hl⟩:=I.look
 refine PySem.W.set_plain X J hs (PySem.W.osa_open (s:={ s with toks:=s.toks + 1 }) (r:=none) X J hp ht fun b => ?_)
 obtain ⟨cd,hc,hd'⟩:=PySem.W.any_some hh
 have hx : s.heap.get? x = some ⟨.ref C,some dx,.plain,#[]⟩:=I.obj
 refine wpAny_bind (wpAny_pure (wpAny_bind (wpAny_bind (wpAny_loadPart hx (wpAny_bind (PySem.W.Looks.here (s:={ s with toks:=s.toks + 1 }) (PySem.W.looks_clsIn X hc) ?_))))))
 rw [hd']
 refine wpAny_pure (a:=some dx) (wpAny_bind (wpAny_pure (wpAny_bind ?_)))
 refine wpAny_nsSet1 (s:={ s with toks:=s.toks + 1 }) I.ns fun h' hn2 hs2 => ?_
 obtain ⟨oD,esD,epD,hoD,hdD,hcD⟩:=hn2.count (PySem.Within.cons name v hw)
 refine wpAny_bind (wpAny_lookBehind hoD (by rw [hdD]; exact pastItsLine_dict (Nat.le_trans hcD (by rw [List.length_cons]; omega))) ?_)
 exact wpAny_pure (h _ ⟨(hs2.2 _ (Ne.symm I.ne)).trans I.obj,hn2,I.ne⟩ hs2)
theorem aa9 {R : Result → Shared → Prop} {vs : List Value} {kw : List (Str × Value)} (X : K.In s.heap) (hm : PySem.W.makesIn K C = true)
 (hi : PySem.W.findIn K (.ref C) "__init__" = some (some (.ref f))) (hf : PySem.W.typeIn K (.ref f) = some (.type "function"))
 (h : codeAny (model prog w) (A.under (.builtin "type.__call__" ⟨.ref C :: vs,kw⟩)) (.call (.ref f) ⟨.ref (s.heap.objs.size + 1) :: vs,kw⟩) (PySem.W.InitBack (s.heap.objs.size + 1) R)
  { s with heap:=(s.heap.push PySem.W.emptyDict).push (PySem.W.instObj C s.heap.objs.size) }) :
 codeAny (model prog w) A (.call (.ref C) ⟨vs,kw⟩) R s:=by
 obtain ⟨hh,g,d,t,os⟩:=s
 exact PySem.W.make_core (PySem.W.makes_of X hm) (PySem.W.looks_findIn X hi) (fun self => PySem.W.bind_fn X self hf) (.inl rfl) h
end
def b8 (f : Str) (v : V) : List (Str × V) → List (Str × V)
 | [] => [(f,v)]
 | (g,x) :: r => if g = f then (g,v) :: r else (g,x) :: b8 f v r
theorem Lo (f g : Str) (v : V) : ∀ fs : List (Str × V),(b8 f v fs).lookup g = if g = f then some v else fs.lookup g
 | [] => by
   show List.lookup g [(f,v)] = _
   by_cases h : g = f
   ·have hb : (g == f) = true:=beq_iff_eq.mpr h
    simp only [List.lookup,hb,if_pos h]
   ·have hb : (g == f) = false:=beq_eq_false_iff_ne.mpr h
    simp only [List.lookup,hb,if_neg h]
 | (k,x) :: r => by
   have ih:=Lo f g v r
   rw [show b8 f v ((k,x) :: r) = (if k = f then (k,v) :: r else (k,x) :: b8 f v r) from rfl]
   by_cases hk : k = f
   ·rw [if_pos hk]
    by_cases h : g = k
    ·have hb : (g == k) = true:=beq_iff_eq.mpr h
     simp only [List.lookup,hb,if_pos (h.trans hk)]
    ·have hb : (g == k) = false:=beq_eq_false_iff_ne.mpr h
     simp only [List.lookup,hb,if_neg (fun e : g = f => h (e.trans hk.symm))]
   ·rw [if_neg hk]
    by_cases h : g = k
    ·have hb : (g == k) = true:=beq_iff_eq.mpr h
     simp only [List.lookup,hb,if_neg (fun e : g = f => hk (h.symm.trans e))]
    ·have hb : (g == k) = false:=beq_eq_false_iff_ne.mpr h
     simp only [List.lookup,hb]
     exact ih
theorem yI (f : Str) (v : V) : ∀ fs : List (Str × V),f ∈ (b8 f v fs).map (·.1) ∧ ∀ g,g ∈ fs.map (·.1) → g ∈ (b8 f v fs).map (·.1)
 | [] => ⟨by simp [b8],fun g h => by simp at h⟩
 | (k,x) :: r => by
   obtain ⟨i1,i2⟩:=yI f v r
   rw [show b8 f v ((k,x) :: r) = (if k = f then (k,v) :: r else (k,x) :: b8 f v r) from rfl]
   by_cases hk : k = f
   ·rw [if_pos hk]
    subst hk
    exact ⟨by simp,fun g h => by simpa using h⟩
   ·rw [if_neg hk]
    refine ⟨?_,fun g h => ?_⟩
    ·rw [List.map_cons]
     exact List.mem_cons_of_mem _ i1
    ·rw [List.map_cons] at h ⊢
     rcases List.mem_cons.mp h with e | e
     ·exact List.mem_cons.mpr (.inl e)
     ·exact List.mem_cons_of_mem _ (i2 g e)
theorem Lx (f : Str) (v : V) : ∀ fs : List (Str × V),(b8 f v fs).length ≤ fs.length + 1
 | [] => by simp [b8]
 | (k,x) :: r => by
   have ih:=Lx f v r
   rw [show b8 f v ((k,x) :: r) = (if k = f then (k,v) :: r else (k,x) :: b8 f v r) from rfl]
   by_cases hk : k = f
   ·rw [if_pos hk,List.length_cons,List.length_cons]; omega
   ·rw [if_neg hk,List.length_cons,List.length_cons]; omega
theorem cM.some_of {v : V} {o : Option Value} (r : cM (some v) o) : ∃ u,o = some u ∧ RelV v u:=by
 cases o with
 | none => exact (show False from r).elim
 | some u => exact ⟨u,rfl,r⟩
theorem cM.none_of {o : Option Value} (r : cM none o) : o = none:=by
 cases o with
 | none => rfl
 | some u => exact (show False from r).elim
theorem acm {v : V} {u : Value} (r : RelV v u) : PySem.W.handedIn u = true:=by
 cases v with
 | aC => cases (show u = Value.none from r); rfl
 | bl b => cases (show u = Value.bool b from r); rfl
 | int i => obtain ⟨t,e⟩:=(show ∃ t,u = Value.int i t from r); cases e; rfl
 | str x => obtain ⟨t,e⟩:=(show ∃ t,u = Value.str x t from r); cases e; rfl
 | dF b => obtain ⟨t,e⟩:=(show ∃ t,u = Value.bytes b t from r); cases e; rfl
 | bF b => obtain ⟨t,e⟩:=(show ∃ t,u = Value.float b t from r); cases e; rfl
 | ref a => cases (show u = Value.ref a from r); rfl
 | ty n => cases (show u = Value.type n from r); rfl
section
variable {P : Program} {w : World} {H H' : Hp} {h h' : Heap} {a C dx : Addr} {fs fs' : List (Str × V)}
theorem Ac (ax : bT P w H h) (e : H a = some (.ins C dx fs)) : ∃ mA,lK h a dx C mA ∧ (∀ f,cM (fs.lookup f) (mA f)) ∧ PySem.Within mA (fs.map (·.1)) ∧ fs.length ≤ 1000 ∧ H dx = some (.own a):=by
 obtain ⟨d,z,ne,ob,mA,n,r,q⟩:=(show bZ P w H h a (.ins C dx fs) from ax a _ e)
 exact ⟨mA,⟨ob,n,ne⟩,r,q,z,d⟩
end
structure dH (K : PySem.W.Frag) (C : Addr) : Prop where
 pg : PySem.W.plainGet K C Str.empty = true
 hd : PySem.W.hasDictIn K C = true
 po : PySem.W.plainOver K C = true
 sa : PySem.W.findIn K (.ref C) "__setattr__" = some (some (.builtin "object.__setattr__"))
theorem dH.get {K : PySem.W.Frag} {C : Addr} (c : dH K C) (f : Str) : PySem.W.plainGet K C f = true:=c.pg
def b0 (K : PySem.W.Frag) (C : Addr) (f : Str) : Prop:=PySem.W.findIn K (.ref C) f = some none
theorem b0.Tn {K : PySem.W.Frag} {C : Addr} {f : Str} (n : b0 K C f) : PySem.W.takerIn K C f = some none:=by
 unfold PySem.W.takerIn
 rw [show PySem.W.findIn K (.ref C) f = some none from n]
 rfl
structure Meth (K : PySem.W.Frag) (C : Addr) (m : Str) (f : Addr) : Prop where
 at_ : PySem.W.findIn K (.ref C) m = some (some (.ref f))
 fn : PySem.W.isFn K (.ref f) = true
 kp : PySem.W.keepIn K (.ref f) = true
section
variable {X : Cx} {pins : List (Addr × Obj)} {σ : St} {H : Hp} {s : Shared} {a C dx : Addr} {fs : List (Str × V)} {f : Str} {v : V} {A : Around} {E : Value → Shared → Prop}
theorem acx {b : Bool} {Q : Value → Shared → Prop} (I : Inv X pins σ H s) (e : H a = some (.ins C dx fs)) (c : dH X.K C) (n : b0 X.K C f) (l : fs.lookup f = some v)
 (h : ∀ u s',Inv X pins σ H s' → RelV v u → Q u s') : wpAny (model X.prog X.w) A (getAttr (.ref a) f b) Q E s:=by
 obtain ⟨mA,O,r,_,_,_⟩:=Ac I.ax e
 obtain ⟨u,hu,ru⟩:=cM.some_of (v:=v) (o:=mA f) (by rw [← l]; exact r f)
 exact get_map I.dj O (c.get f) c.hd n hu (acm ru) (h u _ (I.tok _) ru)
theorem M4 {m : Str} {g : Addr} {pl : Sem Bool} {Q : Value × List Value → Shared → Prop} (I : Inv X pins σ H s) (e : H a = some (.ins C dx fs)) (c : dH X.K C) (k : Meth X.K C m g) (l : fs.lookup m = none)
 (h : Q (.ref g,[.ref a]) s) : wpAny (model X.prog X.w) A (getMethod (.ref a) m pl) Q E s:=by
 obtain ⟨mA,O,r,_,_,_⟩:=Ac I.ax e
 have hn : mA m = none:=cM.none_of (by rw [← l]; exact r m)
 exact acy I.dj O (c.get m) k.at_ k.fn hn h
theorem WL {y : V} {u : Value} {Q : Unit → Shared → Prop} (I : Inv X pins σ H s) (e : H a = some (.ins C dx fs)) (c : dH X.K C) (n : b0 X.K C f) (hl : fs.length < 1000) (ry : RelV y u)
 (h : ∀ s',Inv X pins σ (upd H a (.ins C dx (b8 f y fs))) s' → Q () s') : wpAny (model X.prog X.w) A (setAttr (.ref a) f u) Q E s:=by
 obtain ⟨mA,O,r,wi,_,ho⟩:=Ac I.ax e
 have hz : (fs.map (·.1)).length ≤ sizeLine:=by rw [List.length_map,sizeLine_eq]; omega
 refine WM I.dj O c.sa c.po n.Tn c.hd wi hz fun h' O' sb => h _ ?_
 have hd : ∃ o,h'.get? dx = some o:=let ⟨o,_,_,e',_⟩:=O'.ns; ⟨o,e'⟩
 refine I.write (x:=a) (e:=dx) (by rw [e]; exact True.intro) (.inr ho) (fun b q hb z => (sb.2 b hb).trans z) hd ?_
 refine ⟨by rw [ag O.ne]; exact ho,?_,O.ne,O'.obj,_,O'.ns,fun g => ?_,fun g hg => ?_⟩
 ·have:=Lx f y fs; omega
 ·show cM ((b8 f y fs).lookup g) (if g = f then some u else mA g)
  rw [Lo]
  by_cases q : g = f
  ·rw [if_pos q,if_pos q]; exact ry
  ·rw [if_neg q,if_neg q]; exact r g
 ·by_cases q : g = f
  ·rw [q]; exact (yI f y fs).1
  ·refine (yI f y fs).2 g (wi g fun z => hg ?_)
   show (if g = f then some u else mA g) = none
   rw [if_neg q]; exact z
theorem Inv.made (I : Inv X pins σ H s) : Inv X pins σ (upd (upd H s.heap.objs.size (.own (s.heap.objs.size + 1))) (s.heap.objs.size + 1) (.ins C s.heap.objs.size []))
 { s with heap:=(s.heap.push PySem.W.emptyDict).push (PySem.W.instObj C s.heap.objs.size) }:=by
 have e1 : (s.heap.push PySem.W.emptyDict).get? s.heap.objs.size = some PySem.W.emptyDict:=Heap.get?_push_size s.heap rfl
 have e2 : ((s.heap.push PySem.W.emptyDict).push (PySem.W.instObj C s.heap.objs.size)).get? (s.heap.objs.size + 1) = some (PySem.W.instObj C s.heap.objs.size):=by
  have:=Heap.get?_push_size (s.heap.push PySem.W.emptyDict) (o:=PySem.W.instObj C s.heap.objs.size) rfl
  rwa [Heap.size_push] at this
 have e3 : (s.heap.push PySem.W.emptyDict).Ns s.heap.objs.size (fun _ => none):=⟨PySem.W.emptyDict,#[],_,e1,rfl,(fun e he => absurd he (by simp)),fun _ => rfl⟩
 have I1:=I.laid (a:=s.heap.objs.size) (o:=.own (s.heap.objs.size + 1)) (h':=s.heap.push PySem.W.emptyDict) (t':=s.toks) (fun b u q => Heap.get?_push_of_some _ q) (Nat.le_refl _) ⟨_,e1⟩
 refine I1.laid (a:=s.heap.objs.size + 1) (o:=.ins C s.heap.objs.size []) (t':=s.toks) (fun b u q => Heap.get?_push_of_some _ q) (Nat.le_of_eq (Heap.size_push _ _)) ?_
 have ne : s.heap.objs.size ≠ s.heap.objs.size + 1:=Nat.ne_of_lt (Nat.lt_succ_self _)
 refine ⟨by rw [ag ne,af],Nat.zero_le _,ne,e2,fun _ => none,(Heap.Ns1.of_empty e3).at fun o q => Heap.get?_push_of_some _ q,fun _ => True.intro,fun y hy => absurd rfl hy⟩
theorem aeI {prog : Program} {w : World} {env : Env} {e : Expr} {f : Str} {pos : Pos} {s : Shared} {Q : Value → Shared → Prop} (hb : attributeBase e f env (eval e env) = eval e env)
 (h : wpAny (model prog w) A (eval e env) (fun o s₁ => wpAny (model prog w) A (getAttr o f true) Q E s₁) E s) : wpAny (model prog w) A (eval (.Attribute e f pos) env) Q E s :=
 Attribute_any_ h (by rw [arm_eval_Attribute,hb])
end
def oY (K : PySem.W.Frag) (ta : TE) (f : Str) : TE:=fun σ H Q => ta σ H fun x H1 => ∃ a C dx fs v,x = .ref a ∧ H1 a = some (.ins C dx fs) ∧ dH K C ∧ b0 K C f ∧ fs.lookup f = some v ∧ Q v H1
def WU (K : PySem.W.Frag) (ta tv : TE) (f : Str) : TS:=fun D σ H => tv σ H fun y H1 => ta σ H1 fun x H2 => ∃ a C dx fs,x = .ref a ∧ H2 a = some (.ins C dx fs) ∧ dH K C ∧ b0 K C f ∧ fs.length < 1000 ∧
 D.nx σ (upd H2 a (.ins C dx (b8 f y fs)))
section
variable {X : Cx} {o e value : Expr} {f : Str} {pos pos' tpos : Pos} {ta tv : TE}
theorem ai (he : PE X e ta) (hb : attributeBase e f X.env (eval e X.env) = eval e X.env) : PE X (.Attribute e f pos) (oY X.K ta f):=by
 intro pins s σ H Q I h
 refine aeI hb (aJ (he pins s σ H _ I h) fun u s1 ⟨x,H1,I1,rx,a,C,dx,fs,v,ex,ea,c,n,l,q⟩ => ?_)
 subst ex
 obtain rfl : u = Value.ref a:=rx
 exact acx I1 ea c n l fun u' s2 I2 ru => ⟨v,H1,I2,ru,q⟩
theorem bQ (ha : PE X o ta) (hv : PE X value tv) (hs : swapsWith value (some (.Attribute o f pos')) pos.line X.env = pure false) : PS X (.Assign [.Attribute o f pos'] value pos) (WU X.K ta tv f):=by
 intro pins s σ H D I h
 refine plainObj_wpAny_Assign_Attribute (aJ (hv pins s σ H _ I h) fun u s1 ⟨y,H1,I1,ry,q⟩ => aJ (ha pins s1 σ H1 _ I1 q) fun ov s2 ⟨x,H2,I2,rx,a,C,dx,fs,ex,ea,c,n,l,q2⟩ => ?_) hs
 subst ex
 obtain rfl : ov = Value.ref a:=rx
 exact WL I2 ea c n l ry fun s3 I3 => ⟨σ,_,I3,q2⟩
end
section
variable {X : Cx} {pins : List (Addr × Obj)} {σ : St} {H : Hp} {s : Shared} {A : Around} {E : Value → Shared → Prop} {Q : Value → Shared → Prop} {c : Value} {b : Bool}
end
end L2
namespace L2
open PySem PySem.Spec PyProof.Rows
structure aq (k : Nat) (A : Around) : Prop where
 hd : A.handled = none
 dp : A.depth + 3 * k + 5 < recursionLimit
 un : A.units + 16 * k + 200 < cLine
theorem aq.mono {j k : Nat} {A : Around} (r : aq k A) (h : j ≤ k) : aq j A:=⟨r.hd,by have:=r.dp; omega,by have:=r.un; omega⟩
theorem aq.deeper {k : Nat} {A : Around} (r : aq (k + 1) A) (env : Env) : aq k (A.deeper env) :=
 ⟨r.hd,by have:=r.dp; show A.depth + 1 + 3 * k + 5 < _; omega,by have:=r.un; show A.units + 3 + 16 * k + 200 < _; omega⟩
theorem aba {A : Around} {C : Addr} {us : List Value} {kw : List (Str × Value)} : (A.under (.builtin "type.__call__" ⟨.ref C :: us,kw⟩)).depth = A.depth + 1:=by
 first | rfl | simp [Around.under,Code.weight,Code.isCreation,Code.isGuard,Code.isCaller,Code.frames,Code.isFrame,guardIds]
theorem aa8 {A : Around} {C : Addr} {us : List Value} {kw : List (Str × Value)} : (A.under (.builtin "type.__call__" ⟨.ref C :: us,kw⟩)).units = A.units + 1:=by
 first | rfl | simp [Around.under,Code.cUnits,Code.frames,Code.isFrame]
theorem aq.make {k : Nat} {A : Around} (r : aq (k + 1) A) (C : Addr) (us : List Value) (kw : List (Str × Value)) : aq k (A.under (.builtin "type.__call__" ⟨.ref C :: us,kw⟩)) :=
 ⟨r.hd,by have:=r.dp; rw [aba]; omega,by have:=r.un; rw [aa8]; omega⟩
theorem aq.depth {k : Nat} {A : Around} (r : aq k A) : A.depth < recursionLimit:=by have:=r.dp; omega
theorem aq.units {k : Nat} {A : Around} (r : aq k A) : A.units + 64 < cLine:=by have:=r.un; omega
def mW : TA:=fun _ H Q => Q [] H
def t9 (ta : TE) (tr : TA) : TA:=fun σ H Q => ta σ H fun x H1 => tr σ H1 fun xs H2 => Q (x :: xs) H2
section
variable {X : Cx} {e : Expr} {es : List Expr} {te : TE} {t : TA} {pos : Pos}
theorem ae : PA X [] mW:=fun _ _ _ _ H Q I h => Calls.spliced_nil ⟨[],H,I,.nil,h⟩
theorem aa (ha : PE X e te) (hr : PA X es t) (hs : starEach (e :: es) X.env = (false,eval e X.env) :: starEach es X.env:=by rfl) : PA X (e :: es) (t9 te t):=by
 intro pos pins s σ H Q I h
 rw [hs]
 show wpAny _ _ (spliced ((false,eval e X.env) :: backTo pos (starEach es X.env))) _ _ s
 refine Calls.spliced_cons (aJ (ha pins s σ H _ I h) fun u s1 ⟨x,H1,I1,r1,q1⟩ => ?_)
 exact aJ (hr pos pins s1 σ H1 _ I1 q1) fun us s2 ⟨xs,H2,I2,r2,q2⟩ => ⟨x :: xs,H2,I2,.cons r1 r2,q2⟩
def Tr (t : TA) : TE:=fun σ H Q => t σ H fun xs H1 => xs.length ≤ sizeLine ∧ ∀ p,H1 p = none → Q (.ref p) (upd H1 p (.tup xs))
def TJ (t : TA) : TE:=fun σ H Q => t σ H fun xs H1 => xs.length ≤ sizeLine ∧ ∀ p,H1 p = none → Q (.ref p) (upd H1 p (.lst xs))
theorem dJ {x1} (h : PA X es t) : PE X (.Tuple es x1 pos) (Tr t):=by
 intro pins s σ H Q I hq
 refine wpAny_Tuple_spliced (aJ (h pos pins s σ H _ I hq) fun us s1 ⟨xs,H1,I1,r,z,q⟩ => ⟨by rw [← r.length]; exact z,?_⟩)
 have hf : H1 s1.heap.objs.size = none:=I1.ax.fresh (Nat.le_refl _)
 refine ⟨.ref s1.heap.objs.size,upd H1 s1.heap.objs.size (.tup xs),I1.laid (t':=s1.toks) (fun b u e => Heap.get?_push_of_some _ e) (Nat.le_refl _) ?_,rfl,q _ hf⟩
 exact ⟨z,us,r,⟨_,Heap.get?_push_size _ rfl,rfl,_,rfl⟩⟩
theorem bA (h : PA X es t) : PE X (.List es pos) (TJ t):=by
 intro pins s σ H Q I hq
 refine wpAny_List_spliced (aJ (h pos pins s σ H _ I hq) fun us s1 ⟨xs,H1,I1,r,z,q⟩ => ⟨by rw [← r.length]; exact z,?_⟩)
 have hf : H1 s1.heap.objs.size = none:=I1.ax.fresh (Nat.le_refl _)
 refine ⟨.ref s1.heap.objs.size,upd H1 s1.heap.objs.size (.lst xs),I1.laid (t':=s1.toks) (fun b u e => Heap.get?_push_of_some _ e) (Nat.le_refl _) ?_,rfl,q _ hf⟩
 exact ⟨z,us,0,r,Heap.get?_push_size _ rfl⟩
end
abbrev Sp:=List V → Hp → VK → XK → Prop
abbrev eJ:=List Env → Hp → Shared → XK → Value → Shared → Prop
structure lP (P : Program) (w : World) (K : PySem.W.Frag) (mg : Str → Option Value) (base : Heap) (A : Around) (outer : List Env) (s : Shared) (H : Hp) : Prop where
 frames : A.frames = some outer
 mod : Mod K mg base
 bs : ∀ b o,base.get? b = some o → s.heap.get? b = some o ∧ H b = none
 kb : base.objs.size ≤ s.heap.objs.size
 eT : s.heap.FunFrames base outer
 lE : ∀ b ∈ fE outer,H b = none
 ax : bT P w H s.heap
 bare : AllBare s.gens
def CE (outer : List Env) (P : Program) (w : World) (H : Hp) (s : Shared) (Q : VK) (u : Value) (s' : Shared) : Prop :=
 ∃ v H',s'.os = s.os ∧ AllBare s'.gens ∧ Un (fE outer) [] H H' s.heap s'.heap ∧ bT P w H' s'.heap ∧ RelV v u ∧ Q v H'
def CR (CX : eJ) (outer : List Env) (P : Program) (w : World) (H : Hp) (s : Shared) (Q : VK) (E : XK) (r : Result) (s' : Shared) : Prop :=
 match r with
 | .ok (.ret u) => CE outer P w H s Q u s'
 | .ok _ => False
 | .error e => CX outer H s E e s'
structure aE (P : Program) (w : World) (K : PySem.W.Frag) (mg : Str → Option Value) (base : Heap) (CX : eJ) (k : Nat) (f : Addr) (fd : FuncData) (ps : List Str) (sp : Sp) : Prop where
 len : ∀ vs H Q E,sp vs H Q E → vs.length = ps.length
 run : ∀ (A : Around) (outer : List Env) (s : Shared) (H : Hp) (args : Args) (us : List Value) (vs : List V) (Q : VK) (E : XK),aq k A → lP P w K mg base A outer s H → BindsTo s fd args (ps.zip us) → Vals vs us → sp vs H Q E →
  codeAny (model P w) A (.call (.ref f) args) (CR CX outer P w H s Q E) s
theorem aE.mono {P : Program} {w : World} {K : PySem.W.Frag} {mg : Str → Option Value} {base : Heap} {CX : eJ} {j k : Nat} {f : Addr} {fd : FuncData} {ps : List Str} {sp : Sp} (F : aE P w K mg base CX j f fd ps sp) (h : j ≤ k) :
 aE P w K mg base CX k f fd ps sp:=⟨F.len,fun A outer s H args us vs Q E hr => F.run A outer s H args us vs Q E (hr.mono h)⟩
theorem lP.make {P : Program} {w : World} {K : PySem.W.Frag} {mg : Str → Option Value} {base : Heap} {A : Around} {outer : List Env} {s : Shared} {H : Hp} (e : lP P w K mg base A outer s H) (C : Addr) (us : List Value) (kw : List (Str × Value)) :
 lP P w K mg base (A.under (.builtin "type.__call__" ⟨.ref C :: us,kw⟩)) outer s H:=⟨by first | exact e.frames | (simpa [Around.under,Code.envs,Code.isFrame,pushEnvs] using e.frames),e.mod,e.bs,e.kb,e.eT,e.lE,e.ax,e.bare⟩
section
variable {X : Cx} {pins : List (Addr × Obj)} {σ : St} {H : Hp} {s s' : Shared}
theorem Inv.NA (I : Inv X pins σ H s) : lP X.prog X.w X.K X.mg X.base X.A X.stack s H :=
 ⟨I.ok.frames,I.ok.mod,I.bs,Nat.le_trans I.ok.kb I.sz,I.stack,I.GZ,I.ax,I.bare⟩
theorem Inv.after {Q : VK} {u : Value} (I : Inv X pins σ H s) (h : CE X.stack X.prog X.w H s Q u s') : EP X pins σ Q u s':=by
 obtain ⟨v,H',os,bare,un,ax,r,q⟩:=h
 obtain ⟨hh,g,d,t,os'⟩:=s'
 obtain rfl : os' = s.os:=os
 exact ⟨v,H',I.call (h':=hh) (g':=g) (d':=d) (t':=t) (ch:=[]) un ax bare (fun b z => absurd z (by simp)),r,q⟩
end
def T6 (sp : Sp) (dvs : List V) (E : XK) (t : TA) : TE:=fun σ H Q => t σ H fun vs H1 => sp (vs ++ dvs) H1 Q E
def oX (C : Addr) (m : Str) (sp : Sp) (dvs : List V) (E : XK) (ta : TE) (t : TA) : TE:=fun σ H Q => ta σ H fun x H1 => ∃ a dx fs,x = .ref a ∧ H1 a = some (.ins C dx fs) ∧ fs.lookup m = none ∧
 t σ H1 fun vs H2 => sp (x :: (vs ++ dvs)) H2 Q E
def GS (C : Addr) (sp : Sp) (dvs : List V) (E : XK) (t : TA) : TE:=fun σ H Q => t σ H fun vs H1 => ∀ x dx,H1 x = none → H1 dx = none → dx ≠ x →
 sp (.ref x :: (vs ++ dvs)) (upd (upd H1 dx (.own x)) x (.ins C dx [])) (fun v H2 => v = .aC ∧ Q (.ref x) H2) E
def Binds (K : PySem.W.Frag) (fd : FuncData) (ps : List Str) (ds : List Value) : Prop :=
 ∀ (s : Shared) (us : List Value),K.In s.heap → (us ++ ds).length = ps.length → BindsTo s fd ⟨us,[]⟩ (ps.zip (us ++ ds))
theorem Binds.all {K : PySem.W.Frag} {fd : FuncData} {ps : List Str} (h : ∀ us : List Value,us.length = ps.length → bindArgs fd ⟨us,[]⟩ = pure (ps.zip us)) : Binds K fd ps []:=fun s us _ hl => by
 rw [List.append_nil] at hl ⊢
 exact .of_eq (h us hl)
def Passes (CX : eJ) (X : Cx) (E : XK) : Prop:=∀ (pins : List (Addr × Obj)) (σ : St) (H : Hp) (s : Shared) (e : Value) (s' : Shared),Inv X pins σ H s → CX X.stack H s E e s' → X.xe e s'
section
variable {X : Cx} {CX : eJ} {k : Nat} {f C : Addr} {fd : FuncData} {ps : List Str} {sp : Sp} {dvs : List V} {ds : List Value} {E : XK} {x m : Str} {p pos apos : Pos} {e o : Expr} {es : List Expr} {ta : TE} {t : TA}
theorem o6 {pins : List (Addr × Obj)} {σ : St} {H : Hp} {s : Shared} {Q : VK} {us : List Value} {vs : List V} (F : aE X.prog X.w X.K X.mg X.base CX k f fd ps sp) (hr : aq k X.A) (hb : Binds X.K fd ps ds) (hd : Vals dvs ds) (hx : Passes CX X E)
 (I : Inv X pins σ H s) (r : Vals vs us) (h : sp (vs ++ dvs) H Q E) : wpAny (model X.prog X.w) X.A (call (.ref f) us) (EP X pins σ Q) X.xe s:=by
 have r2 : Vals (vs ++ dvs) (us ++ ds):=r.append hd
 have hl : (us ++ ds).length = ps.length:=by rw [← r2.length]; exact F.len _ _ _ _ h
 refine wpAny_call (codeAny_mono (F.run X.A X.stack s H ⟨us,[]⟩ (us ++ ds) (vs ++ dvs) Q E hr I.NA (hb s us I.dj hl) r2 h) fun r s' hq => ?_)
 cases r with
 | error e => exact hx pins σ H s e s' I hq
 | ok fl =>
   cases fl with
   | ret u => exact I.after hq
   | next => exact False.elim hq
   | brk => exact False.elim hq
   | cont => exact False.elim hq
theorem cw (F : aE X.prog X.w X.K X.mg X.base CX k f fd ps sp) (hr : aq k X.A) (hg : Gl X x) (hm : X.mg x = some (.ref f)) (hk : PySem.W.keepIn X.K (.ref f) = true) (hb : Binds X.K fd ps ds) (hd : Vals dvs ds) (hx : Passes CX X E)
 (ha : PA X (e :: es) t) (hdb : (x == ("__debug__" : Str)) = false:=by decide) (he : starEach (e :: es) X.env = (false,eval e X.env) :: starEach es X.env:=by rfl) (hpl : (backTo pos (starEach es X.env)).any (·.1) = false:=by rfl) :
 PE X (.Call (.Name x p) (e :: es) [] pos) (T6 sp dvs E t):=by
 intro pins s σ H Q I h
 refine wpAny_Call_Name_kw (qp I hg hm ?_ hdb)
 refine PySem.W.callWith_K (h₀:=X.base) I.ok.mod.mz hk (aJ (ha pos pins s σ H _ I h) fun us s1 ⟨vs,H1,I1,r,q⟩ => ⟨I1.dj,?_⟩) he hpl
 exact o6 F hr hb hd hx I1 r q
theorem bh {pl : Sem Bool} (he : PE X o ta) (c : dH X.K C) (hm : Meth X.K C m f) (F : aE X.prog X.w X.K X.mg X.base CX k f fd ps sp) (hr : aq k X.A) (hb : Binds X.K fd ps ds) (hd : Vals dvs ds) (hx : Passes CX X E) (ha : PA X (e :: es) t)
 (hst : starEach (e :: es) X.env = (false,eval e X.env) :: starEach es X.env:=by rfl) (hpl : (backTo pos (starEach es X.env)).any (·.1) = false:=by rfl)
 (ht : eval (.Call (.Attribute o m apos) (e :: es) [] pos) X.env = (do
  let ov ← eval o X.env
  standAt apos.atName
  let (f,first) ← holding [ov] (getMethod ov m pl)
  callWith pos f first (backTo pos (starEach (e :: es) X.env)) (backToKw pos (keywordEach [] X.env))):=by rfl) :
 PE X (.Call (.Attribute o m apos) (e :: es) [] pos) (oX C m sp dvs E ta t):=by
 intro pins s σ H Q I h
 refine PySem.W.methodCall_KW (pl:=pl) (aJ (he pins s σ H _ I h) fun u s1 ⟨x,H1,I1,rx,a,dx,fs,ex,ea,l,q⟩ => ?_) ht
 subst ex
 obtain rfl : u = Value.ref a:=rx
 refine M4 I1 ea c hm l ?_
 refine PySem.W.callWith_K (first:=[.ref a]) (h₀:=X.base) I.ok.mod.mz hm.kp (aJ (ha pos pins s1 σ H1 _ I1 q) fun us s2 ⟨vs,H2,I2,r,q2⟩ => ⟨I2.dj,?_⟩) hst hpl
 exact o6 (us:=.ref a :: us) (vs:=.ref a :: vs) F hr hb hd hx I2 (.cons rfl r) q2
theorem uU {pl : Sem Bool} (he : PE X o ta) (c : dH X.K C) (hm : Meth X.K C m f) (F : aE X.prog X.w X.K X.mg X.base CX k f fd ps sp) (hr : aq k X.A) (hb : Binds X.K fd ps ds) (hd : Vals dvs ds) (hx : Passes CX X E)
 (ht : eval (.Call (.Attribute o m apos) [] [] pos) X.env = (do
  let ov ← eval o X.env
  standAt apos.atName
  let (f,first) ← holding [ov] (getMethod ov m pl)
  callWith pos f first (backTo pos (starEach [] X.env)) (backToKw pos (keywordEach [] X.env))):=by rfl) :
 PE X (.Call (.Attribute o m apos) [] [] pos) (oX C m sp dvs E ta mW):=by
 intro pins s σ H Q I h
 refine PySem.W.methodCall_KW (pl:=pl) (aJ (he pins s σ H _ I h) fun u s1 ⟨x,H1,I1,rx,a,dx,fs,ex,ea,l,q⟩ => ?_) ht
 subst ex
 obtain rfl : u = Value.ref a:=rx
 refine M4 I1 ea c hm l ?_
 exact PySem.W.callWith_K0 (first:=[.ref a]) I1.dj hm.kp (o6 (us:=[.ref a]) (vs:=[.ref a]) F hr hb hd hx I1 (.cons rfl .nil) q)
structure Mk (K : PySem.W.Frag) (C f : Addr) : Prop where
 makes : PySem.W.makesIn K C = true
 init : PySem.W.findIn K (.ref C) "__init__" = some (some (.ref f))
 fn : PySem.W.isFn K (.ref f) = true
 kp : PySem.W.keepIn K (.ref C) = true
theorem IE {pins : List (Addr × Obj)} {σ : St} {H : Hp} {s : Shared} {Q : VK} {us : List Value} {vs : List V} (M : Mk X.K C f) (F : aE X.prog X.w X.K X.mg X.base CX k f fd ps sp) (hr : aq (k + 1) X.A) (hb : Binds X.K fd ps ds) (hd : Vals dvs ds)
 (hx : Passes CX X E) (I : Inv X pins σ H s) (r : Vals vs us)
 (h : ∀ x dx,H x = none → H dx = none → dx ≠ x → sp (.ref x :: (vs ++ dvs)) (upd (upd H dx (.own x)) x (.ins C dx [])) (fun v H2 => v = .aC ∧ Q (.ref x) H2) E) :
 wpAny (model X.prog X.w) X.A (call (.ref C) us) (EP X pins σ Q) X.xe s:=by
 have hq:=h (s.heap.objs.size + 1) s.heap.objs.size (I.ax.fresh (Nat.le_succ _)) (I.ax.fresh (Nat.le_refl _)) (Nat.ne_of_lt (Nat.lt_succ_self _))
 have I2:=Inv.made (C:=C) I
 have r2 : Vals (V.ref (s.heap.objs.size + 1) :: (vs ++ dvs)) (Value.ref (s.heap.objs.size + 1) :: (us ++ ds)):=.cons rfl (r.append hd)
 have hl : (Value.ref (s.heap.objs.size + 1) :: us ++ ds).length = ps.length:=by
  have e:=r2.length
  rw [F.len _ _ _ _ hq] at e
  exact e.symm
 refine wpAny_call (aa9 (f:=f) I.dj M.makes M.init (beq_iff_eq.mp M.fn) (codeAny_mono (F.run _ X.stack _ _ ⟨Value.ref (s.heap.objs.size + 1) :: us,[]⟩ (Value.ref (s.heap.objs.size + 1) :: (us ++ ds)) _ _ E (hr.make C us [])
  (I2.NA.make C us []) (hb _ (Value.ref (s.heap.objs.size + 1) :: us) I2.dj hl) r2 hq) fun r s' hq' => ?_))
 cases r with
 | error e => exact hx pins σ _ _ e s' I2 hq'
 | ok fl =>
   cases fl with
   | ret u =>
     obtain ⟨v,H',I3,rv,ev,q3⟩:=I2.after hq'
     subst ev
     exact ⟨rv,⟨V.ref (s.heap.objs.size + 1),H',I3,rfl,q3⟩⟩
   | next => exact False.elim hq'
   | brk => exact False.elim hq'
   | cont => exact False.elim hq'
theorem m8 (M : Mk X.K C f) (F : aE X.prog X.w X.K X.mg X.base CX k f fd ps sp) (hr : aq (k + 1) X.A) (hg : Gl X x) (hm : X.mg x = some (.ref C)) (hb : Binds X.K fd ps ds) (hd : Vals dvs ds) (hx : Passes CX X E)
 (ha : PA X (e :: es) t) (hdb : (x == ("__debug__" : Str)) = false:=by decide) (he : starEach (e :: es) X.env = (false,eval e X.env) :: starEach es X.env:=by rfl) (hpl : (backTo pos (starEach es X.env)).any (·.1) = false:=by rfl) :
 PE X (.Call (.Name x p) (e :: es) [] pos) (GS C sp dvs E t):=by
 intro pins s σ H Q I h
 refine wpAny_Call_Name_kw (qp I hg hm ?_ hdb)
 refine PySem.W.callWith_K (h₀:=X.base) I.ok.mod.mz M.kp (aJ (ha pos pins s σ H _ I h) fun us s1 ⟨vs,H1,I1,r,q⟩ => ⟨I1.dj,?_⟩) he hpl
 exact IE M F hr hb hd hx I1 r q
theorem Kg (M : Mk X.K C f) (F : aE X.prog X.w X.K X.mg X.base CX k f fd ps sp) (hr : aq (k + 1) X.A) (hg : Gl X x) (hm : X.mg x = some (.ref C)) (hb : Binds X.K fd ps ds) (hd : Vals dvs ds) (hx : Passes CX X E)
 (hdb : (x == ("__debug__" : Str)) = false:=by decide) : PE X (.Call (.Name x p) [] [] pos) (GS C sp dvs E mW):=by
 intro pins s σ H Q I h
 refine wpAny_Call_Name_kw (qp I hg hm ?_ hdb)
 exact PySem.W.callWith_K0 I.dj M.kp (IE (us:=[]) M F hr hb hd hx I .nil h)
end
section
variable {X : Cx} {CX : eJ} {k : Nat} {f C : Addr} {fd : FuncData} {ps ks : List Str} {sp : Sp} {E : XK} {x m : Str} {p pos apos kpos : Pos} {e o : Expr} {es : List Expr} {kws : List Keyword} {te ta : TE} {t tk : TA} {nm : Option Str}
variable {g : List Value → List Value → List Value} {gV : List V → List V → List V}
end
structure aX (N P : List Str) (sc : Scope) : Prop where
 kind : sc.kind = .function
 co : sc.isCoroutine = false
 gen : sc.isGenerator = false
 nd : N.Nodup
 pre : N.take P.length = P
 par : ∀ x ∈ P,sc.names.lookup x = some .local ∨ sc.names.lookup x = some .cell
 aaP : ∀ y ∈ sc.names,y.2 ≠ .free
theorem QT {kindOf : Str → Option NameKind} {x : Str} : ∀ {binds : List (Str × Value)} {m : Str → Option Value},(∀ v,(x,v) ∉ binds) → bindL kindOf binds m x = m x
 | [],_,_ => rfl
 | (n,v) :: r,m,h => by
   unfold bindL
   rw [QT fun w hw => h w (List.mem_cons_of_mem _ hw)]
   split
   ·have : x ≠ n:=by rintro rfl; exact h v List.mem_cons_self
    simp [this]
   ·rfl
theorem QV {kindOf : Str → Option NameKind} {x : Str} : ∀ {binds : List (Str × Value)} {m : Str → Option Value},(∀ v,(x,v) ∉ binds) → bindC kindOf binds m x = m x
 | [],_,_ => rfl
 | (n,v) :: r,m,h => by
   unfold bindC
   rw [QV fun w hw => h w (List.mem_cons_of_mem _ hw)]
   split
   ·rfl
   ·have : x ≠ n:=by rintro rfl; exact h v List.mem_cons_self
    simp [this]
theorem QU {kindOf : Str → Option NameKind} {x : Str} {v : Value} : ∀ {P : List Str} {vs : List Value} {i : Nat} {m : Str → Option Value},P.Nodup → P[i]? = some x → vs[i]? = some v → kindOf x = some .local →
 bindL kindOf (P.zip vs) m x = some v
 | [],_,_,_,_,h,_,_ => by simp at h
 | _ :: _,[],_,_,_,_,h,_ => by simp at h
 | p :: P,w :: vs,0,m,nd,h1,h2,hk => by
   simp at h1 h2; subst h1; subst h2
   show bindL kindOf ((p,w) :: P.zip vs) m p = _
   unfold bindL
   rw [QT fun v hv => (List.nodup_cons.mp nd).1 (List.of_mem_zip hv).1,if_pos hk]
   simp
 | p :: P,w :: vs,i + 1,m,nd,h1,h2,hk => by
   show bindL kindOf ((p,w) :: P.zip vs) m x = _
   unfold bindL
   exact QU (i:=i) (List.nodup_cons.mp nd).2 (by simpa using h1) (by simpa using h2) hk
theorem QW {kindOf : Str → Option NameKind} {x : Str} {v : Value} : ∀ {P : List Str} {vs : List Value} {i : Nat} {m : Str → Option Value},P.Nodup → P[i]? = some x → vs[i]? = some v → kindOf x ≠ some .local →
 bindC kindOf (P.zip vs) m x = some v
 | [],_,_,_,_,h,_,_ => by simp at h
 | _ :: _,[],_,_,_,_,h,_ => by simp at h
 | p :: P,w :: vs,0,m,nd,h1,h2,hk => by
   simp at h1 h2; subst h1; subst h2
   show bindC kindOf ((p,w) :: P.zip vs) m p = _
   unfold bindC
   rw [QV fun v hv => (List.nodup_cons.mp nd).1 (List.of_mem_zip hv).1,if_neg hk]
   simp
 | p :: P,w :: vs,i + 1,m,nd,h1,h2,hk => by
   show bindC kindOf ((p,w) :: P.zip vs) m x = _
   unfold bindC
   exact QW (i:=i) (List.nodup_cons.mp nd).2 (by simpa using h1) (by simpa using h2) hk
def start (N : List Str) (vs : List V) : St:=vs.map some ++ List.replicate (N.length - vs.length) none
def mP (CX : eJ) (P : Program) (w : World) (K : PySem.W.Frag) (mg : Str → Option Value) (base : Heap) (N : List Str) (qual : Str) (scope : Scope) (f : Addr) (cd : Value) (A : Around) (outer : List Env) (s : Shared) (H : Hp) (E : XK) : Cx where
 prog:=P
 w:=w
 K:=K
 mg:=mg
 base:=base
 A:=A.deeper (envOfC qual scope s.heap.objs.size f cd)
 N:=N
 cV:=s
 lL:=H
 env:=envOfC qual scope s.heap.objs.size f cd
 outer:=outer
 stack:=envOfC qual scope s.heap.objs.size f cd :: outer
 ex:=[]
 calm:=true
 fn:=fun _ => true
 pn:=[]
 xe:=fun e s' => wpAny (model P w) (A.deeper (envOfC qual scope s.heap.objs.size f cd)) (leaving (envOfC qual scope s.heap.objs.size f cd) e) (fun _ s'' => CX outer H s E e s'') (fun e' s'' => CX outer H s E e' s'') s'
theorem QB {sc : Scope} {n : Nat} {x : Str} (h : sc.names.lookup x = some .cell) : ∃ c,(cellsFrom n sc.names []).lookup x = some c:=by
 have q:=PySem.W.cellsFrom_some sc.names n [] (.inl h)
 exact Option.isSome_iff_exists.mp q
theorem abB {CX : eJ} {P : Program} {w : World} {K : PySem.W.Frag} {mg : Str → Option Value} {base : Heap} {N ps : List Str} {qual : Str} {scope : Scope} {f : Addr} {cd : Value} {A : Around} {outer : List Env} {s s1 : Shared} {H : Hp} {E : XK} {us : List Value} {vs : List V}
 (S : aX N ps scope) (hd : A.handled = none) (e0 : lP P w K mg base A outer s H) (hl : vs.length = ps.length) (r : Vals vs us)
 (x : InCallC s s.heap.objs.size (bindL (envOfC qual scope s.heap.objs.size f cd).kindOf (ps.zip us) fun _ => none) (cellsFrom (s.heap.objs.size + 1) scope.names []) (bindC (envOfC qual scope s.heap.objs.size f cd).kindOf (ps.zip us) fun _ => none) s1) :
 Inv (mP CX P w K mg base N qual scope f cd A outer s H E) [] (start N vs) H s1:=by
 have hpl : ps.length ≤ N.length:=by have:=congrArg List.length S.pre; rw [List.length_take] at this; omega
 obtain ⟨h1,tk,rfl,hk⟩:=x.done
 have noA : ∀ b : Addr,b ∉ (mP CX P w K mg base N qual scope f cd A outer s H E).ex:=fun b z => absurd (show b ∈ ([] : List Addr) from z) (by simp)
 refine ⟨⟨e0.mod,S.kind,rfl,rfl,Nat.le_refl _,fun y z c h1 h2 => ?_,fun y hy => ?_,fun y c _ h => ?_,fun _ => hd,Around.frames_deeper e0.frames,.inr ⟨rfl,rfl⟩,fun b z => absurd z (noA b),e0.bs,e0.kb,fun b _ _ => noA b,fun b z => absurd z (noA b),e0.eT,e0.lE⟩,
  rfl,e0.bare,Un.kept hk,⟨_,x.toInCall.ns,fun i y v h1 h2 h3 => ?_⟩,fun y c h => ⟨_,x.cell y c h⟩,e0.ax.fresh (Nat.le_refl _),fun y c h => ?_,fun p hp => absurd (show p ∈ ([] : List (Addr × Obj)) from hp) (by simp),e0.ax.kept hk,?_⟩
 ·exact name_of_addr x.apart (PySem.mem_of_lookup h1) (PySem.mem_of_lookup h2)
 ·have hy : scope.names.lookup y = some .cell ∨ scope.names.lookup y = some .free:=hy
  rcases hy with hy | hy
  ·exact QB hy
  ·exact absurd rfl (S.aaP _ (PySem.mem_of_lookup hy))
 ·exact Nat.le_of_lt (x.above y c (PySem.mem_of_lookup h))
 ·have hi : i < vs.length:=by
   unfold start at h2
   by_cases hi : i < vs.length
   ·exact hi
   ·rw [List.getElem?_append_right (by simpa using hi)] at h2
    rw [List.getElem?_replicate] at h2
    split at h2 <;> cases h2
  have ha : vs[i]? = some v:=by
   unfold start at h2
   rw [List.getElem?_append_left (by simpa using hi),List.getElem?_map] at h2
   cases e : vs[i]? with
   | none => rw [e] at h2; cases h2
   | some a => rw [e] at h2; cases h2; rfl
  obtain ⟨u,hu,rv⟩:=r.get ha
  have hp : ps[i]? = some y:=by
   rw [← S.pre,List.getElem?_take_of_lt (by omega)]; exact h1
  have ndP : ps.Nodup:=by rw [← S.pre]; exact S.nd.sublist (List.take_sublist _ _)
  refine ⟨u,rv,?_⟩
  rcases S.par y (List.mem_of_getElem? hp) with k | k
  ·exact .inl ⟨k,QU ndP hp hu k⟩
  ·obtain ⟨c,e⟩:=QB (n:=s.heap.objs.size + 1) k
   refine .inr ⟨.inl k,c,e,?_⟩
   have q:=x.cell y c e
   rw [QW ndP hp hu (by show scope.names.lookup y ≠ _; rw [k]; decide)] at q
   exact q
 ·exact e0.ax.fresh (Nat.le_of_lt (x.above y c (PySem.mem_of_lookup h)))
 ·unfold start
  show _ = N.length
  rw [List.length_append,List.length_map,List.length_replicate]
  omega
theorem acZ {CX : eJ} {P : Program} {w : World} {K : PySem.W.Frag} {mg : Str → Option Value} {base : Heap} {k : Nat} {f : Addr} {name qual : Str} {params : Arguments} {body : List Stmt} {scope : Scope} {dV kV doc pm cdv ct oc : Value} {an od : Option Addr}
 {osl : Array (Option Value)} {N ps : List Str} {sp : Sp} (lk : K.lookup f = some ⟨oc,od,.func (PySem.W.fnOf name qual params body scope dV kV doc pm an cdv ct),osl⟩) (hcd : PySem.W.codeIn K cdv qual = true) (S : aX N ps scope)
 (len : ∀ vs H Q E,sp vs H Q E → vs.length = ps.length)
 (hbody : ∀ (A : Around) (outer : List Env) (s : Shared) (H : Hp) (vs : List V) (Q : VK) (E : XK),aq k (A.deeper (envOfC qual scope s.heap.objs.size f cdv)) → sp vs H Q E →
  ∃ t,eG (mP CX P w K mg base N qual scope f cdv A outer s H E) body t ∧ t { nx:=fun _ H' => Q .aC H',rt:=Q } (start N vs) H) :
 aE P w K mg base CX (k + 1) f (PySem.W.fnOf name qual params body scope dV kV doc pm an cdv ct) ps sp:=by
 refine ⟨len,fun A outer s H args us vs Q E hr e0 hb r hsp => ?_⟩
 have hl:=len _ _ _ _ hsp
 have KX : K.In s.heap:=e0.mod.mz.keeps fun b o e => (e0.bs b o e).1
 have lim : s.heap.NoLimit:=e0.mod.nolimit.keeps fun b o e => (e0.bs b o e).1
 have hkind : ∀ y ∈ ps.zip us,scope.names.lookup y.1 = some .local ∨ (scope.names.lookup y.1 = some .cell ∧ ((cellsFrom (s.heap.objs.size + 1) scope.names []).lookup y.1).isSome = true):=fun ⟨n,v⟩ hy => by
  rcases S.par n (List.of_mem_zip hy).1 with q | q
  ·exact .inl q
  ·exact .inr ⟨q,PySem.W.cellsFrom_some _ _ _ (.inl q)⟩
 refine codeAny_call_function hr.depth (KX _ _ lk) rfl S.co S.gen rfl (PySem.W.codeRec_of KX hcd) (hb _ _ _ _ ?_)
 refine wpAny_newFunctionEnv_cells S.kind hkind fun env he s1 x => ?_
 subst he
 refine ⟨lim.keeps x.toInCall.keep,codeAny_func ?_⟩
 obtain ⟨t,ht,hq⟩:=hbody A outer s H vs Q E (hr.deeper _) hsp
 have I : Inv (mP CX P w K mg base N qual scope f cdv A outer s H E) [] (start N vs) H s1:=abB S hr.hd e0 hl r x
 refine wpAny_mono (ht [] s1 (start N vs) H _ I hq) (fun fl s' hs => ?_) fun e s' hs => hs
 have fin : ∀ {σ' : St} {H' : Hp} {v : V} {u : Value},Inv (mP CX P w K mg base N qual scope f cdv A outer s H E) [] σ' H' s' → RelV v u → Q v H' → CE outer P w H s Q u s' :=
  fun {σ' H' v u} J rv q => ⟨v,H',J.os,J.bare,J.base,J.ax,rv,q⟩
 cases fl with
 | ret u =>
   obtain ⟨v,σ',H',J,rv,q⟩:=hs
   exact fin J rv q
 | next =>
   obtain ⟨σ',H',J,q⟩:=hs
   exact fin (v:=V.aC) (u:=Value.none) J rfl q
 | brk =>
   obtain ⟨_,_,_,q⟩:=hs
   exact False.elim q
 | cont =>
   obtain ⟨_,_,_,q⟩:=hs
   exact False.elim q
end L2
namespace L2
open PySem PySem.Spec PyProof.Rows
section
variable {X : Cx} {x : Str} {p pos : Pos} {e : Expr} {es : List Expr} {t : TA} {id T : String} {r : List V → Hp → VK → Prop}
def GW (r : List V → Hp → VK → Prop) (t : TA) : TE:=fun σ H Q => t σ H fun vs H1 => r vs H1 Q
theorem dB (hc : ic X (.builtin id) r) (hg : Gl X x) (hm : X.mg x = none) (hv : bootBuiltins x = some (.builtin id)) (ha : PA X (e :: es) t) (hn : x ≠ "__name__":=by decide) (hdb : (x == ("__debug__" : Str)) = false:=by decide)
 (he : starEach (e :: es) X.env = (false,eval e X.env) :: starEach es X.env:=by rfl) (hpl : (backTo pos (starEach es X.env)).any (·.1) = false:=by rfl) : PE X (.Call (.Name x p) (e :: es) [] pos) (GW r t):=by
 intro pins s σ H Q I h
 refine wpAny_Call_Name_kw (nT I hg hm hv ?_ hn hdb)
 exact PyProof.Rows.callWith_builtin1 (aJ (ha pos pins s σ H _ I h) fun us s1 ⟨vs,H1,I1,r1,q1⟩ => hc pins s1 σ H1 vs us Q I1 r1 q1) he hpl
theorem nh (hc : ic X (.type T) r) (hg : Gl X x) (hm : X.mg x = none) (hv : bootBuiltins x = some (.type T)) (ha : PA X (e :: es) t) (hn : x ≠ "__name__":=by decide) (hdb : (x == ("__debug__" : Str)) = false:=by decide)
 (he : starEach (e :: es) X.env = (false,eval e X.env) :: starEach es X.env:=by rfl) (hpl : (backTo pos (starEach es X.env)).any (·.1) = false:=by rfl) : PE X (.Call (.Name x p) (e :: es) [] pos) (GW r t):=by
 intro pins s σ H Q I h
 refine wpAny_Call_Name_kw (nT I hg hm hv ?_ hn hdb)
 exact PyProof.Rows.callWith_type1 (aJ (ha pos pins s σ H _ I h) fun us s1 ⟨vs,H1,I1,r1,q1⟩ => hc pins s1 σ H1 vs us Q I1 r1 q1) he hpl
end
end L2
namespace HT
open PySem PyProof.Rows
section
open PySem.SeqAt
open PySem.AutoSeq1 (wpAny_loadPart')
open PySem.MeetsSeq PySem.MeetsSeq2 PySem.MeetsSeq3
end
section
variable {prog : Program} {w : World} {A : Around} {E : Value → Shared → Prop} {s : Shared}
def bf (n d : Nat) : Option Int → Nat
 | none => d
 | some v => if v < 0 then (v + (n : Int)).toNat else min v.toNat n
theorem WS (n d : Nat) : bf n d none = d:=rfl
theorem o5 (n d k : Nat) : bf n d (some (k : Int)) = min k n:=by
 show (if (k : Int) < 0 then ((k : Int) + (n : Int)).toNat else min (k : Int).toNat n) = min k n
 rw [if_neg (by omega),Int.toNat_natCast]
theorem WT (n d : Nat) (hd : d ≤ n) (o : Option Int) : bf n d o ≤ n:=by
 cases o with
 | none => exact hd
 | some v =>
   show (if v < 0 then (v + (n : Int)).toNat else min v.toNat n) ≤ n
   by_cases hv : v < 0
   ·rw [if_pos hv]; omega
   ·rw [if_neg hv]; exact Nat.min_le_right _ _
theorem QA (v : Int) (n d : Nat) : (if v < 0 then max (v + (n : Int)) 0 else min v (n : Int)) = ((bf n d (some v) : Nat) : Int):=by
 show (if v < 0 then max (v + (n : Int)) 0 else min v (n : Int)) = (((if v < 0 then (v + (n : Int)).toNat else min v.toNat n) : Nat) : Int)
 by_cases hv : v < 0
 ·simp only [if_pos hv]; omega
 ·simp only [if_neg hv]; omega
theorem aeS (lo hi : Option Int) (n : Nat) : Builtin.Slice.sliceAdjust lo hi 1 (n : Int) = (((bf n 0 lo : Nat) : Int),((bf n n hi : Nat) : Int)):=by
 have h1 : ¬ ((1 : Int) < 0):=by omega
 unfold Builtin.Slice.sliceAdjust
 simp only [h1,if_false]
 refine Prod.ext ?_ ?_
 ·cases lo with
  | none => rfl
  | some v => exact QA v n 0
 ·cases hi with
  | none => rfl
  | some v => exact QA v n n
theorem Xx (i j : Nat) : Builtin.Slice.slicePlaces (i : Int) (j : Int) 1 = j - i:=by
 unfold Builtin.Slice.slicePlaces
 have h1 : (1 : Int) > 0:=by omega
 simp only [h1,if_true,Int.ediv_one]
 split <;> omega
theorem G1 {v : Value} {o : Option Int} {Q : Option Int → Shared → Prop} (p : IsPart v o) (h : Q o s) : wpAny (model prog w) A (Builtin.Slice.slicePartIndex v) Q E s:=by
 cases p with
 | none => exact slicePart_none h
 | int i t => exact slicePart_int h
theorem Vu {sl : Addr} {vl vu : Value} {lo hi : Option Int} {n : Nat} {Q : Int × Int × Nat → Shared → Prop} (hs : s.heap.IsSliceOf sl vl vu .none) (pl : IsPart vl lo) (pu : IsPart vu hi)
 (h : Q (((bf n 0 lo : Nat) : Int),1,bf n n hi - bf n 0 lo) s) : wpAny (model prog w) A (Builtin.Slice.sliceApplied (.ref sl) (pure (n : Int))) Q E s:=by
 obtain ⟨os,hos,hcs,hds⟩:=id hs
 unfold Builtin.Slice.sliceApplied Builtin.Slice.sliceFields
 refine wpAny_bind (wpAny_bind (wpAny_field hos hds (x:=vl) rfl (wpAny_bind (wpAny_field hos hds (x:=vu) rfl (wpAny_bind (wpAny_field hos hds (x:=.none) rfl (wpAny_pure ?_)))))))
 refine wpAny_bind (slicePart_none ?_)
 show wpAny _ _ (if ((1 : Int) == 0) = true then _ else _) _ _ s
 rw [if_neg (by decide)]
 refine wpAny_bind (G1 pl (wpAny_bind (G1 pu (wpAny_bind (wpAny_pure ?_)))))
 show wpAny _ _ (match Builtin.Slice.sliceAdjust lo hi 1 (n : Int) with | (lo,hi) => pure (lo,(1 : Int),Builtin.Slice.slicePlaces lo hi 1)) _ _ s
 rw [aeS lo hi n]
 show wpAny _ _ (pure (((bf n 0 lo : Nat) : Int),(1 : Int),Builtin.Slice.slicePlaces ((bf n 0 lo : Nat) : Int) ((bf n n hi : Nat) : Int) 1)) _ _ s
 rw [Xx]
 exact wpAny_pure h
theorem Xz (xs : Array Value) (i k : Nat) : ((List.range k).filterMap fun (m : Nat) => xs[((i : Int) + (m : Int) * 1).toNat]?).toArray = ((xs.toList.drop i).take k).toArray:=by
 have e : (fun (m : Nat) => xs[((i : Int) + (m : Int) * 1).toNat]?) = fun m => xs[i + m]?:=by
  funext m
  have : ((i : Int) + (m : Int) * 1).toNat = i + m:=by omega
  rw [this]
 rw [e]
 have:=pick_run xs i k
 rw [List.filterMap_map] at this
 have e2 : ((fun x => xs[x]?) ∘ fun x => i + x) = fun m => xs[i + m]?:=rfl
 rw [e2] at this
 rw [this]
theorem acz {t sl : Addr} {items : Array Value} {vl vu : Value} {lo hi : Option Int} {Q : Value → Shared → Prop} (ht : IsTup s.heap t items) (hs : s.heap.IsSliceOf sl vl vu .none) (pl : IsPart vl lo) (pu : IsPart vu hi)
 (hw : ¬ (bf items.size 0 lo = 0 ∧ bf items.size items.size hi = items.size))
 (h : Q (.ref s.heap.objs.size) { s with heap:=s.heap.push { cls:=.type "tuple",data:=.seq ((items.toList.drop (bf items.size 0 lo)).take (bf items.size items.size hi - bf items.size 0 lo)).toArray } })
 (hsz : items.size ≤ sizeLine) : wpAny (model prog w) A (getItem (.ref t) (.ref sl)) Q E s:=by
 have htake : sizeOk (.seq ((items.toList.drop (bf items.size 0 lo)).take (bf items.size items.size hi - bf items.size 0 lo)).toArray):=by
  show ((items.toList.drop (bf items.size 0 lo)).take (bf items.size items.size hi - bf items.size 0 lo)).toArray.size ≤ sizeLine
  rw [List.size_toArray,List.length_take,List.length_drop,Array.length_toList]
  omega
 have hj : bf items.size items.size hi ≤ items.size:=WT _ _ (Nat.le_refl _) hi
 obtain ⟨os,hos,hcs,hds⟩:=id hs
 have hTs : s.TypeIs (.ref sl) "slice":=⟨os,hos,hcs⟩
 unfold getItem
 try with_reducible refine wpAny_holding ?_
 first | refine wpAny_bind (wpAny_pure ?_) | skip
 refine wpAny_bind (wpAny_sequenceKey ht.typeIs (by decide) ?_)
 refine wpAny_bind (wpAny_callSpecial?_slot (name:=Str.ofString "__getitem__") ht.typeIs PyProof.Rows.slot_tuple_getitem
  (wpAny_call_entry PyProof.Rows.slot_tuple_getitem ht.typeIs entry_tuple_getitem ?_ (args_tuple_getitem _ _)))
 show wpAny _ _ (Builtin.Tuple.tupleItemsOf (.ref t) >>= _) _ _ s
 refine wpAny_bind (tupleItemsOf_ ht ?_)
 refine wpAny_bind (wpAny_typeOf hTs ?_)
 rw [if_pos (by decide)]
 refine wpAny_bind (Vu hs pl pu ?_)
 have hno : ¬ ((((bf items.size 0 lo : Nat) : Int) == 0 && (1 : Int) == 1 && (bf items.size items.size hi - bf items.size 0 lo) == items.size) = true):=by
  intro q
  rw [Bool.and_eq_true,Bool.and_eq_true] at q
  have q1 : ((bf items.size 0 lo : Nat) : Int) = 0:=eq_of_beq q.1.1
  have q2 : bf items.size items.size hi - bf items.size 0 lo = items.size:=eq_of_beq q.2
  exact hw ⟨by omega,by omega⟩
 show wpAny _ _ (if (((bf items.size 0 lo : Nat) : Int) == 0 && (1 : Int) == 1 && (bf items.size items.size hi - bf items.size 0 lo) == items.size) = true then _ else _) _ _ s
 rw [if_neg hno,Xz]
 first
  | exact wpAny_bind (m:=Builtin.Tuple.tupleExact _) (wpAny_newObj_type (wpAny_pure ⟨_,rfl,wpAny_pure h⟩) htake)
  | exact wpAny_bind (m:=Builtin.Tuple.tupleExact _) (wpAny_newObj_type (wpAny_bind (wpAny_pure (wpAny_pure ⟨_,rfl,wpAny_pure h⟩))) htake)
  | exact wpAny_bind (wpAny_bind (m:=Builtin.Tuple.tupleExact _) (wpAny_newObj_type (wpAny_pure (wpAny_pure ⟨_,rfl,wpAny_pure h⟩)) htake))
  | exact wpAny_bind (wpAny_bind (m:=Builtin.Tuple.tupleExact _) (wpAny_newObj_type (wpAny_pure ⟨_,rfl,wpAny_pure h⟩) htake))
end
end HT
namespace L2
open PySem PySem.Spec PyProof.Rows
abbrev TO:=St → Hp → (Option Int → Hp → Prop) → Prop
def PO (X : Cx) (e : Option Expr) (t : TO) : Prop :=
 ∀ (pins : List (Addr × Obj)) (s : Shared) (σ : St) (H : Hp) (Q : Option Int → Hp → Prop),Inv X pins σ H s → t σ H Q →
  wpAny (model X.prog X.w) X.A (evalPart e X.env) (fun u s' => ∃ o H',Inv X pins σ H' s' ∧ IsPart u o ∧ Q o H') X.xe s
def TF : TO:=fun _ H Q => Q none H
def Tw (t : TE) : TO:=fun σ H Q => t σ H fun x H1 => ∃ i,x = .int i ∧ Q (some i) H1
section
variable {X : Cx} {e : Expr} {te : TE} {lo hi : Option Expr} {tl th : TO} {pos p2 : Pos}
theorem o9 : PO X none TF:=by
 intro pins s σ H Q I h
 rw [evalPart_none]
 exact wpAny_pure ⟨none,H,I,.none,h⟩
theorem lX (h : PE X e te) : PO X (some e) (Tw te):=by
 intro pins s σ H Q I hw
 rw [evalPart_some]
 refine aJ (h pins s σ H _ I hw) fun u s1 ⟨x,H1,I1,r1,q1⟩ => ?_
 obtain ⟨i,rfl,q⟩:=q1
 obtain ⟨t,rfl⟩:=r1
 exact ⟨some i,H1,I1,.int i t,q⟩
def EV (X : Cx) (r : V → Option Int → Option Int → Hp → VK → Prop) : Prop :=
 ∀ (pins : List (Addr × Obj)) (s : Shared) (σ : St) (H : Hp) (x : V) (v vl vu : Value) (lo hi : Option Int) (sl : Addr) (Q : VK),Inv X pins σ H s → RelV x v → s.heap.IsSliceOf sl vl vu .none → IsPart vl lo → IsPart vu hi → r x lo hi H Q →
  ∃ T id,typeLookup (.type T) "__getitem__" = pure (some (.builtin id)) ∧ s.TypeIs v T ∧ wpAny (model X.prog X.w) X.A (getItem v (.ref sl)) (EP X pins σ Q) X.xe s
def Tt (r : V → Option Int → Option Int → Hp → VK → Prop) (te : TE) (tl th : TO) : TE:=fun σ H Q => te σ H fun x H1 => tl σ H1 fun l H2 => th σ H2 fun u H3 => r x l u H3 Q
theorem m7 {r : V → Option Int → Option Int → Hp → VK → Prop} (hr : EV X r) (he : PE X e te) (hl : PO X lo tl) (hu : PO X hi th) : PE X (.Subscript e (.Slice lo hi none p2) pos) (Tt r te tl th):=by
 intro pins s σ H Q I h
 refine Subscript_ (aJ (he pins s σ H _ I h) fun v s1 ⟨x,H1,I1,r1,q1⟩ => ?_)
 refine wpAny_Slice (aJ (hl pins s1 σ H1 _ I1 q1) fun vl s2 ⟨l,H2,I2,pl,q2⟩ => aJ (hu pins s2 σ H2 _ I2 q2) fun vu s3 ⟨u,H3,I3,pu,q3⟩ => ?_)
 rw [evalPart_none]
 refine wpAny_pure ?_
 have I4 : Inv X pins σ H3 { s3 with heap:=s3.heap.push { cls:=.type "slice",data:=.fields #[vl,vu,.none] } }:=I3.kept (t':=s3.toks) fun b ob q => Heap.get?_push_of_some _ q
 obtain ⟨T,id,hT,ht,hg⟩:=hr pins { s3 with heap:=s3.heap.push { cls:=.type "slice",data:=.fields #[vl,vu,.none] } } σ H3 x v vl vu l u s3.heap.objs.size Q I4 r1 (Heap.IsSliceOf.new ..) pl pu q3
 show wpAny (model X.prog X.w) X.A (subscriptTail e (.Slice lo hi none p2) v (.ref s3.heap.objs.size)) (EP X pins σ Q) X.xe { s3 with heap:=s3.heap.push { cls:=.type "slice",data:=.fields #[vl,vu,.none] } }
 exact tail_any (ops:=[.ref s3.heap.objs.size,v]) ht hT hg (by with_unfolding_all rfl)
def eW (xs : List V) (lo hi : Option Int) : List V:=(xs.drop (HT.bf xs.length 0 lo)).take (HT.bf xs.length xs.length hi - HT.bf xs.length 0 lo)
theorem O8 (xs : List V) (lo hi : Option Int) : (eW xs lo hi).length ≤ xs.length:=by
 unfold eW
 rw [List.length_take,List.length_drop]
 omega
def Xa (K : PySem.W.Frag) : V → Option Int → Option Int → Hp → VK → Prop:=fun x lo hi H Q => ∃ a xs,x = .ref a ∧ a4 K H a xs ∧
 ¬ (HT.bf xs.length 0 lo = 0 ∧ HT.bf xs.length xs.length hi = xs.length) ∧ ∀ p,H p = none → Q (.ref p) (upd H p (.tup (eW xs lo hi)))
theorem ud : EV X (Xa X.K):=by
 intro pins s σ H x v vl vu lo hi sl Q I rx hs pl pu h
 obtain ⟨a,xs,rfl,hx,hw,q⟩:=h
 cases rx
 obtain ⟨its,r,ht,hz⟩:=I.tuple hx
 have hlen : its.toArray.size = xs.length:=by rw [List.size_toArray]; exact r.length.symm
 refine ⟨"tuple",_,PyProof.Rows.slot_tuple_getitem.lookup,ht.typeIs,?_⟩
 refine HT.acz ht hs pl pu (by rw [hlen]; exact hw) ?_ (by rw [hlen]; exact hz)
 rw [hlen]
 refine ⟨.ref s.heap.objs.size,_,I.laid (t':=s.toks) (o:=.tup (eW xs lo hi)) (fun b ob q => Heap.get?_push_of_some _ q) (Nat.le_refl _) ?_,rfl,q _ (I.ax.fresh (Nat.le_refl _))⟩
 exact ⟨Nat.le_trans (O8 xs lo hi) hz,_,(r.drop (HT.bf xs.length 0 lo)).take (HT.bf xs.length xs.length hi - HT.bf xs.length 0 lo),IsTup.new _ _⟩
end
end L2
namespace L2
open PySem PySem.Spec PyProof.Rows
def kJ (n : Nat) (i : Int) : Option Nat:=if 0 ≤ i then (if i < n then some i.toNat else none) else if -(n : Int) ≤ i then some (i + n).toNat else none
def cS {α : Type} (xs : List α) (i : Int) : Option α:=(kJ xs.length i).bind fun j => xs[j]?
theorem abv {n : Nat} {i : Int} {j : Nat} (h : kJ n i = some j) : seqIndex? i n = some j ∧ j < n ∧ -(n : Int) ≤ i ∧ i < n:=by
 unfold kJ at h
 by_cases h0 : 0 ≤ i
 ·rw [if_pos h0] at h
  by_cases h1 : i < n
  ·rw [if_pos h1] at h
   have e : i.toNat = j:=Option.some.inj h
   exact ⟨by rw [seqIndex_of h0 h1,e],by omega,by omega,h1⟩
  ·rw [if_neg h1] at h; cases h
 ·rw [if_neg h0] at h
  by_cases h1 : -(n : Int) ≤ i
  ·rw [if_pos h1] at h
   have e : (i + n).toNat = j:=Option.some.inj h
   exact ⟨by rw [seqIndex_neg (by omega) h1,e],by omega,h1,by omega⟩
  ·rw [if_neg h1] at h; cases h
theorem Rc {α : Type} {xs : List α} {i : Int} {v : α} (h : cS xs i = some v) : ∃ j,seqIndex? i xs.length = some j ∧ xs[j]? = some v ∧ j < xs.length ∧ -(xs.length : Int) ≤ i ∧ i < xs.length:=by
 unfold cS at h
 cases e : kJ xs.length i with
 | none => rw [e] at h; cases h
 | some j =>
   rw [e] at h
   obtain ⟨h1,h2,h3,h4⟩:=abv e
   exact ⟨j,h1,h,h2,h3,h4⟩
theorem ef {α : Type} {xs : List α} {j : Nat} {v : α} (h : xs[j]? = some v) : cS xs (j : Int) = some v:=by
 have hj : j < xs.length:=(List.getElem?_eq_some_iff.mp h).1
 have e : kJ xs.length (j : Int) = some j:=by
  unfold kJ
  rw [if_pos (by omega),if_pos (by omega)]; simp
 unfold cS; rw [e]; exact h
theorem aeJ {α : Type} (xs : List α) (v : α) : cS (xs ++ [v]) (-1) = some v:=by
 have hl : (xs ++ [v]).length = xs.length + 1:=by simp
 have e : kJ (xs ++ [v]).length (-1) = some xs.length:=by
  unfold kJ
  rw [hl,if_neg (by decide),if_pos (by omega)]
  congr 1
  omega
 unfold cS
 rw [e]
 show (xs ++ [v])[xs.length]? = some v
 simp
def aeX (b : Expr) : Prop:=∀ o i,subscripted b false o i = operate [o,i] (getItem o i)
def EZ (X : Cx) (r : R2) : Prop :=
 ∀ (value slice : Expr) (pins : List (Addr × Obj)) (s : Shared) (σ : St) (H : Hp) (x y : V) (v u : Value) (Q : VK),Inv X pins σ H s → RelV x v → RelV y u → r x y H Q →
  subscripted slice false v u = operate [v,u] (getItem v u) → wpAny (model X.prog X.w) X.A (subscriptTail value slice v u) (EP X pins σ Q) X.xe s
def EX (X : Cx) (id : String) (r : V → List V → Hp → VK → Prop) : Prop :=
 ∀ (pins : List (Addr × Obj)) (s : Shared) (σ : St) (H : Hp) (x : V) (xs : List V) (v : Value) (us : List Value) (Q : VK),Inv X pins σ H s → RelV x v → Vals xs us → r x xs H Q →
  wpAny (model X.prog X.w) X.A (call (.builtin id) (v :: us)) (EP X pins σ Q) X.xe s
section
variable {X : Cx} {a b : Expr} {ta tb : TE} {pos : Pos}
theorem a6 {r : R2} (hr : EZ X r) (ha : PE X a ta) (hb : PE X b tb) (hs : aeX b) : PE X (.Subscript a b pos) (oW r ta tb):=by
 intro pins s σ H Q I h
 exact Subscript_ (Dt ha hb I h fun v u s2 x y H2 I2 rx ry q => hr a b pins s2 σ H2 x y v u Q I2 rx ry q (hs _ _))
def Xf (K : PySem.W.Frag) : R2:=fun x y H Q => ∃ p xs i v,x = .ref p ∧ y = .int i ∧ az K H p xs ∧ cS xs i = some v ∧ Q v H
def Xe (K : PySem.W.Frag) : R2:=fun x y H Q => ∃ p xs i v,x = .ref p ∧ y = .int i ∧ a4 K H p xs ∧ cS xs i = some v ∧ Q v H
theorem bV : EZ X (Xf X.K):=by
 intro value slice pins s σ H x y v u Q I rx ry h hs
 obtain ⟨p,xs,i,z,rfl,rfl,hq,he,q⟩:=h
 cases rx
 obtain ⟨t,rfl⟩:=ry
 obtain ⟨its,r,pl,hz⟩:=I.list hq
 obtain ⟨j,h1,h2,h3,h4,h5⟩:=Rc he
 obtain ⟨w,ew,rw'⟩:=r.get h2
 have hl:=r.length
 have hn:=qo
 have fin : EP X pins σ Q w s:=⟨z,H,I,rw',q⟩
 by_cases h0 : 0 ≤ i
 ·have hj : i.toNat = j:=by
   rw [seqIndex_of h0 h5] at h1
   exact Option.some.inj h1
  exact item_listR pl.isList h0 (by omega) (by rw [hj]; simpa using ew) fin hs
 ·have hj : (i + (its.toArray.size : Int)).toNat = j:=by
   rw [seqIndex_neg (by omega) h4] at h1
   rw [List.size_toArray,← hl]
   exact Option.some.inj h1
  exact subscriptTail_builtinR (x:=w) pl.isList.typeIs slot_list_getitem.lookup
   (wpAny_getItem_list_neg (Q:=fun r s' => r = w ∧ EP X pins σ Q r s') pl.isList (by omega) (by rw [List.size_toArray] <;> omega) (by omega) (by rw [hj]; simpa using ew) ⟨rfl,fin⟩) hs
theorem cb : EZ X (Xe X.K):=by
 intro value slice pins s σ H x y v u Q I rx ry h hs
 obtain ⟨p,xs,i,z,rfl,rfl,hq,he,q⟩:=h
 cases rx
 obtain ⟨t,rfl⟩:=ry
 obtain ⟨its,r,pl,hz⟩:=I.tuple hq
 obtain ⟨j,h1,h2,h3,h4,h5⟩:=Rc he
 obtain ⟨w,ew,rw'⟩:=r.get h2
 have hl:=r.length
 have hn:=qo
 have fin : EP X pins σ Q w s:=⟨z,H,I,rw',q⟩
 exact subscriptTail_builtinR (x:=w) pl.typeIs slot_tuple_getitem.lookup
  (getItem_tuple (j:=j) (Q:=fun r s' => r = w ∧ EP X pins σ Q r s') pl (by omega) (by omega) (by rw [List.size_toArray,← hl]; exact h1) (by simpa using ew) ⟨rfl,fin⟩) hs
theorem Vs (lo hi : Option Int) (n : Nat) : (sliceBounds lo hi none n).1 = ((HT.bf n 0 lo : Nat) : Int) ∧ (sliceBounds lo hi none n).2.1 = ((HT.bf n n hi : Nat) : Int) ∧ (sliceBounds lo hi none n).2.2 = 1:=by
 refine ⟨?_,?_,rfl⟩
 ·cases lo with
  | none => simp [sliceBounds,HT.bf]
  | some i =>
    simp only [sliceBounds,HT.bf,Option.getD_none,show (1 : Int) > 0 by decide,if_true]
    by_cases h : i < 0
    ·simp only [h,if_true] <;> omega
    ·simp only [h,if_false] <;> omega
 ·cases hi with
  | none => simp [sliceBounds,HT.bf]
  | some i =>
    simp only [sliceBounds,HT.bf,Option.getD_none,show (1 : Int) > 0 by decide,if_true]
    by_cases h : i < 0
    ·simp only [h,if_true] <;> omega
    ·simp only [h,if_false] <;> omega
theorem Vt (its : List Value) (lo hi : Option Int) : slicePick its.toArray lo hi none = ((its.drop (HT.bf its.length 0 lo)).take (HT.bf its.length its.length hi - HT.bf its.length 0 lo)).toArray:=by
 obtain ⟨h1,h2,h3⟩:=Vs lo hi its.toArray.size
 unfold slicePick
 rw [h1,h2,h3]
 simp only [sliceRange_one,pick_run,List.size_toArray] <;> rfl
def Xb (K : PySem.W.Frag) : V → Option Int → Option Int → Hp → VK → Prop:=fun x lo hi H Q => ∃ a xs,x = .ref a ∧ az K H a xs ∧ ∀ p,H p = none → Q (.ref p) (upd H p (.lst (eW xs lo hi)))
theorem G2 : EV X (Xb X.K):=by
 intro pins s σ H x v vl vu lo hi sl Q I rx hs pl pu h
 obtain ⟨a,xs,rfl,hx,q⟩:=h
 cases rx
 obtain ⟨its,r,ht,hz⟩:=I.list hx
 have hlen:=r.length
 refine ⟨"list",_,slot_list_getitem.lookup,ht.isList.typeIs,?_⟩
 refine wpAny_getItem_list_slice ht.isList hs pl pu .none (by simp) ?_ (by rw [List.size_toArray] <;> omega)
 rw [Vt,← hlen]
 refine ⟨.ref s.heap.objs.size,_,I.laid (t':=s.toks) (o:=.lst (eW xs lo hi)) (fun b ob q => Heap.get?_push_of_some _ q) (Nat.le_refl _) ?_,rfl,q _ (I.ax.fresh (Nat.le_refl _))⟩
 exact ⟨Nat.le_trans (O8 xs lo hi) hz,_,0,(r.drop (HT.bf xs.length 0 lo)).take (HT.bf xs.length xs.length hi - HT.bf xs.length 0 lo),Heap.get?_push_size _ rfl⟩
def kO : V → Bool
 | .aC => true
 | .bl _ => true
 | .int _ => true
 | .str _ => true
 | _ => false
def kP : V → V → Bool
 | .aC,.aC => true
 | .bl a,.bl b => a == b
 | .bl a,.int b => (if a then 1 else 0) == b
 | .int a,.bl b => a == (if b then 1 else 0)
 | .int a,.int b => a == b
 | .str a,.str b => a == b
 | _,_ => false
theorem ac8 {A : Around} {s : Shared} {y x : V} {u v : Value} (ry : RelV y u) (rx : RelV x v) (fy : kO y = true) (fx : kO x = true) : SeqAt.EqAt A s u v (kP y x):=by
 cases y with
 | aC =>
   cases ry
   cases x with
   | aC => cases rx; exact SeqAt.EqAt.same _
   | bl b => cases rx; exact SeqAt.EqAt.none_bool b
   | int b => obtain ⟨t,rfl⟩:=rx; exact SeqAt.EqAt.none_int b t
   | str b => obtain ⟨t,rfl⟩:=rx; exact SeqAt.EqAt.none_str b t
   | _ => exact absurd (show false = true from fx) Bool.false_ne_true
 | bl a =>
   cases ry
   cases x with
   | aC => cases rx; exact SeqAt.EqAt.bool_none a
   | bl b => cases rx; exact SeqAt.EqAt.bool_bool a b
   | int b => obtain ⟨t,rfl⟩:=rx; exact SeqAt.EqAt.bool_int a b t
   | str b => obtain ⟨t,rfl⟩:=rx; exact SeqAt.EqAt.bool_str a b t
   | _ => exact absurd (show false = true from fx) Bool.false_ne_true
 | int a =>
   obtain ⟨t',rfl⟩:=ry
   cases x with
   | aC => cases rx; exact SeqAt.EqAt.int_none a t'
   | bl b => cases rx; exact SeqAt.EqAt.int_bool a t' b
   | int b => obtain ⟨t,rfl⟩:=rx; exact SeqAt.EqAt.int_int a t' b t
   | str b => obtain ⟨t,rfl⟩:=rx; exact SeqAt.EqAt.int_str a t' b t
   | _ => exact absurd (show false = true from fx) Bool.false_ne_true
 | str a =>
   obtain ⟨t',rfl⟩:=ry
   cases x with
   | aC => cases rx; exact SeqAt.EqAt.str_none a t'
   | bl b => cases rx; exact SeqAt.EqAt.str_bool a t' b
   | int b => obtain ⟨t,rfl⟩:=rx; exact SeqAt.EqAt.str_int a t' b t
   | str b => obtain ⟨t,rfl⟩:=rx; exact SeqAt.EqAt.str_str a t' b t
   | _ => exact absurd (show false = true from fx) Bool.false_ne_true
 | _ => exact absurd (show false = true from fy) Bool.false_ne_true
def j9 (x : V) (u : Value) : Bool:=match u with
 | .none => kP .aC x
 | .bool b => kP (.bl b) x
 | .int i _ => kP (.int i) x
 | .str z _ => kP (.str z) x
 | _ => false
theorem Nz {x y : V} {u : Value} (r : RelV y u) (f : kO y = true) : j9 x u = kP y x:=by
 cases y with
 | aC => cases r; rfl
 | bl b => cases r; rfl
 | int i => obtain ⟨t,rfl⟩:=r; rfl
 | str z => obtain ⟨t,rfl⟩:=r; rfl
 | _ => exact absurd (show false = true from f) Bool.false_ne_true
theorem Dx {x : V} : ∀ {xs : List V} {us : List Value},Vals xs us → xs.all kO = true → us.any (j9 x) = xs.any fun y => kP y x
 | _,_,.nil,_ => rfl
 | y :: xs,u :: us,.cons r t,f => by
   rw [List.all_cons,Bool.and_eq_true] at f
   rw [List.any_cons,List.any_cons,Nz r f.1,Dx t f.2]
theorem wW {A : Around} {s : Shared} {x : V} {v : Value} (rx : RelV x v) (fx : kO x = true) : ∀ {xs : List V} {us : List Value},Vals xs us → xs.all kO = true → ∀ u ∈ us,SeqAt.EqAt A s u v (j9 x u)
 | _,_,.nil,_ => fun u hu => by cases hu
 | y :: xs,u :: us,.cons r t,f => fun u' hu => by
   rw [List.all_cons,Bool.and_eq_true] at f
   rcases List.mem_cons.mp hu with rfl | hu
   ·rw [Nz r f.1]; exact ac8 r rx f.1 fx
   ·exact wW rx fx t f.2 u' hu
def qr (x : V) (xs : List V) : Bool:=xs.any fun y => kP y x
def Xg (K : PySem.W.Frag) (neg : Bool) : R2:=fun x y H Q => ∃ p xs,y = .ref p ∧ (az K H p xs ∨ a4 K H p xs) ∧ kO x = true ∧ xs.all kO = true ∧ Q (.bl (if neg then !qr x xs else qr x xs)) H
theorem XS : c9 X (compareOp .In) (Xg X.K false):=by
 intro pins s σ H x y v u Q I rx ry h
 obtain ⟨p,xs,rfl,hq,fx,fs,q⟩:=h
 cases ry
 rcases hq with hq | hq
 ·obtain ⟨its,r,pl,hz⟩:=I.list hq
  refine SeqAt.in_listAt (j9 x) pl.isList (fun w hw => wW rx fx r fs w (by simpa using hw)) ⟨.bl _,H,I,rfl,?_⟩
  rw [show its.toArray.any (j9 x) = its.any (j9 x) by simp,Dx r fs]
  exact q
 ·obtain ⟨its,r,pl,hz⟩:=I.tuple hq
  refine SeqAt.in_tupleAt (j9 x) pl (fun w hw => wW rx fx r fs w (by simpa using hw)) ⟨.bl _,H,I,rfl,?_⟩
  rw [show its.toArray.any (j9 x) = its.any (j9 x) by simp,Dx r fs]
  exact q
theorem fZ : ic X (.builtin "len") (fun xs H Q => ∃ p ys,xs = [.ref p] ∧ (az X.K H p ys ∨ a4 X.K H p ys) ∧ Q (.int ys.length) H):=by
 intro pins s σ H xs us Q I r h
 obtain ⟨p,ys,rfl,hq,q⟩:=h
 obtain ⟨u,rfl,rx⟩:=vals1 r
 cases rx
 have hn:=qo
 rcases hq with hq | hq
 ·obtain ⟨its,r',pl,hz⟩:=I.list hq
  have hlen:=r'.length
  exact Calls.call_len_list pl.isList (by simp only [List.size_toArray] <;> omega) ⟨.int ys.length,H,I.tok _,⟨s.toks + 1,by rw [List.size_toArray,hlen]⟩,q⟩
 ·obtain ⟨its,r',pl,hz⟩:=I.tuple hq
  have hlen:=r'.length
  exact len_tuple pl (by simp only [List.size_toArray] <;> omega) ⟨.int ys.length,H,I.tok _,⟨s.toks + 1,by rw [List.size_toArray,hlen]⟩,q⟩
def F9 (K : PySem.W.Frag) (T : String) (x : V) (H : Hp) : Prop:=match x with
 | .str _ => T = "str"
 | .int _ => T = "int"
 | .ref p => (T = "list" ∧ ∃ xs,az K H p xs) ∨ (T = "tuple" ∧ ∃ o,K.lookup p = some o ∧ o.cls = .type "tuple" ∧ o.dict = none) ∨
  (T = "dict" ∧ ((∃ kvs,H p = some (.dK kvs)) ∨ ∃ kvs,H p = some (.dT kvs))) ∨ (T = "set" ∧ ∃ S n,H p = some (.set S n))
 | _ => False
theorem SY {pins : List (Addr × Obj)} {σ : St} {H : Hp} {s : Shared} {T : String} {x : V} {v : Value} (I : Inv X pins σ H s) (r : RelV x v) (ty : F9 X.K T x H) :
 s.TypeIs v T ∧ ∀ a,v = .ref a → ∃ ob,s.heap.get? a = some ob ∧ ob.dict = none:=by
 cases x with
 | str z =>
   obtain ⟨t,rfl⟩:=r
   cases (show T = "str" from ty)
   exact ⟨typeIs_str s z t,fun _ e => nomatch e⟩
 | int i =>
   obtain ⟨t,rfl⟩:=r
   cases (show T = "int" from ty)
   exact ⟨typeIs_int s i t,fun _ e => nomatch e⟩
 | ref p =>
   cases r
   rcases ty with ⟨rfl,xs,hq⟩ | ⟨rfl,o,hk,hc,hd⟩ | ⟨rfl,hk⟩ | ⟨rfl,S,n,hk⟩
   ·obtain ⟨its,_,pl,_⟩:=I.list hq
    refine ⟨pl.isList.typeIs,fun a e => ?_⟩
    cases e
    obtain ⟨o,n,e,c,hd,_⟩:=pl
    exact ⟨o,e,hd⟩
   ·refine ⟨⟨o,I.dj p o hk,hc⟩,fun a e => ?_⟩
    cases e
    exact ⟨o,I.dj _ o hk,hd⟩
   ·have z : ∃ o,s.heap.get? p = some o ∧ o.ExactDict:=by
     rcases hk with ⟨kvs,hk⟩ | ⟨kvs,hk⟩
     ·obtain ⟨_,_,_,_,o,_,_,e,ex,_⟩:=I.ax p _ hk
      exact ⟨o,e,ex⟩
     ·obtain ⟨_,_,_,_,o,_,_,e,ex,_⟩:=I.ax p _ hk
      exact ⟨o,e,ex⟩
    obtain ⟨o,e,ex⟩:=z
    refine ⟨⟨o,e,ex.1⟩,fun a e2 => ?_⟩
    cases e2
    exact ⟨o,e,ex.2.1⟩
   ·obtain ⟨o,_,_,_,e,ex,_⟩:=I.ax p _ hk
    refine ⟨⟨o,e,ex.1⟩,fun a e2 => ?_⟩
    cases e2
    exact ⟨o,e,ex.2.1⟩
 | _ => exact False.elim ty
def T7 (K : PySem.W.Frag) (T : String) (r : V → List V → Hp → VK → Prop) (to : TE) (t : TA) : TE:=fun σ H Q => to σ H fun x H1 => F9 K T x H1 ∧ t σ H1 fun xs H2 => r x xs H2 Q
variable {o e : Expr} {es : List Expr} {to : TE} {t : TA} {name : Str} {apos cpos : Pos} {T id : String} {r : V → List V → Hp → VK → Prop}
theorem gr (pa : PlainAttrs T) (slot : Slot T name id) (hty : typeOf (.builtin id) = pure (.type "method_descriptor")) (hm : EX X id r) (ho : PE X o to) (ha : PA X (e :: es) t)
 (hbase : attributeBase o name X.env (eval o X.env) = eval o X.env:=by rfl)
 (hfew : ((backTo cpos (starEach (e :: es) X.env)).all (fun x => !x.1) && (backToKw cpos (keywordEach [] X.env)).all (fun x => x.1.isSome)
  && decide ((e :: es).length + ([] : List Keyword).length + (if ([] : List Keyword).isEmpty then 0 else 1) < 30)) = true:=by rfl)
 (hline : (apos.endLine == cpos.line) = true:=by rfl) (hs : starEach (e :: es) X.env = (false,eval e X.env) :: starEach es X.env:=by rfl) (hplain : (backTo cpos (starEach es X.env)).any (·.1) = false:=by rfl) :
 PE X (.Call (.Attribute o name apos) (e :: es) [] cpos) (T7 X.K T r to t):=by
 intro pins s σ H Q I h
 refine wpAny_Call_method_late hbase hfew hline rfl (aJ (ho pins s σ H _ I h) fun v s1 ⟨x,H1,I1,r1,ty,q1⟩ => ?_)
 obtain ⟨h1,h2⟩:=SY I1 r1 ty
 refine ⟨T,id,pa,slot,hty,h1,h2,?_⟩
 have hA:=ha cpos pins s1 σ H1 _ I1 q1
 rw [hs] at hA ⊢
 refine Calls.callWith_builtin (by show (false || (backTo cpos (starEach es X.env)).any (·.1)) = false; rw [hplain] <;> rfl) (Calls.evalArgs_plain ?_)
 exact aJ hA fun us s2 ⟨vs,H2,I2,r2,q2⟩ => hm pins s2 σ H2 x vs v us Q I2 r1 r2 q2
end
end L2
namespace L2
open PySem PySem.Spec PyProof.Rows
def EY (X : Cx) (id : String) (r : V → List V → Hp → VK → Prop) : Prop :=
 ∀ (pins : List (Addr × Obj)) (s : Shared) (σ : St) (H : Hp) (x : V) (xs : List V) (v : Value) (us : List Value) (Q : VK),Inv X pins σ H s → RelV x v → Vals xs us → r x xs H Q →
  wpAny (model X.prog X.w) X.A (call (.builtin id) (v :: us)) (EP X pins σ Q) X.xe s
theorem Vals.one : ∀ {x : V} {us : List Value},Vals [x] us → ∃ u,us = [u] ∧ RelV x u
 | _,_,.cons r .nil => ⟨_,rfl,r⟩
theorem Vals.eraseIdx : ∀ {xs : List V} {us : List Value} (i : Nat),Vals xs us → Vals (xs.eraseIdx i) (us.eraseIdx i)
 | _,_,_,.nil => .nil
 | _,_,0,.cons _ t => t
 | _,_,i + 1,.cons r t => .cons r (Vals.eraseIdx i t)
theorem Ly {α : Type} : ∀ (l : List α) (i : Nat),(l.eraseIdx i).length ≤ l.length
 | [],_ => Nat.le_refl _
 | _ :: _,0 => Nat.le_succ _
 | _ :: r,i + 1 => Nat.succ_le_succ (Ly r i)
section
variable {X : Cx} {pins : List (Addr × Obj)} {σ : St} {H : Hp} {s : Shared} {l b : Addr} {xs ys zs : List V}
theorem Inv.xb {its its' : List Value} {n : Nat} {f : Array Value → Array Value} {t' : Nat} (I : Inv X pins σ H s) (hH : H l = some (.lst xs))
 (e : s.heap.get? l = some { cls:=.type "list",data:=.seq its.toArray n }) (hf : f its.toArray = its'.toArray) (hv : Vals ys its') (hz : ys.length ≤ sizeLine) :
 Inv X pins σ (upd H l (.lst ys)) { s with heap:=s.heap.update l (Obj.mapSeq f),toks:=t' }:=by
 have q:=PySem.IsL.update e f
 rw [hf] at q
 refine I.write (x:=l) (e:=l) (by rw [hH]; exact trivial) (.inl rfl) (fun b' u hb hu => (Heap.get?_update_other s.heap (Obj.mapSeq f) (Ne.symm hb)).trans hu) ⟨_,q⟩ ?_
 exact ⟨hz,its',_,hv,q⟩
theorem Inv.abc {its : List Value} {t' : Nat} (I : Inv X pins σ H s) (hv : Vals ys its) (hz : ys.length ≤ sizeLine) :
 Inv X pins σ (upd H s.heap.objs.size (.lst ys)) { s with heap:=s.heap.push { cls:=.type "list",data:=.seq its.toArray },toks:=t' } :=
 I.laid (fun _ _ q => Heap.get?_push_of_some _ q) (Nat.le_refl _) ⟨hz,its,0,hv,Heap.get?_push_size _ rfl⟩
theorem Inv.fresh (I : Inv X pins σ H s) : H s.heap.objs.size = none:=I.ax.fresh (Nat.le_refl _)
theorem Inv.mv (I : Inv X pins σ H s) (hH : H l = some (.lst xs)) : xs.length ≤ sizeLine ∧ ∃ (its : List Value) (n : Nat),Vals xs its ∧ xs.length = its.length ∧ s.heap.get? l = some { cls:=.type "list",data:=.seq its.toArray n }:=by
 obtain ⟨z,its,n,r,e⟩:=I.ax l _ hH
 exact ⟨z,its,n,r,r.length,e⟩
theorem aaN {n : Nat} (h : n ≤ sizeLine) : Builtin.List.listTooLong n = false:=by
 unfold Builtin.List.listTooLong
 exact decide_eq_false (by omega)
end
section
variable {X : Cx}
def Xk : V → List V → Hp → VK → Prop:=fun x vs H Q => ∃ l xs y,x = .ref l ∧ vs = [y] ∧ H l = some (.lst xs) ∧ xs.length < sizeLine ∧ Q .aC (upd H l (.lst (xs ++ [y])))
theorem lr : EY X "list.append" Xk:=by
 intro pins s σ H x vs v us Q I rx rv h
 obtain ⟨l,xs,y,rfl,rfl,hH,hz,q⟩:=h
 cases rx
 obtain ⟨u,rfl,ru⟩:=rv.one
 obtain ⟨z,its,n,r,hl,e⟩:=I.mv hH
 refine call_meets F.slot_list_append ⟨_,e,rfl⟩ F.entry_list_append (F.args_list_append_2 _ _) (PySem.list_append l its.toArray n u (by rw [List.size_toArray]; omega)) ⟨e,?_⟩
 refine ⟨.aC,_,I.xb (its':=its ++ [u]) hH e (by simp) (r.append (.cons ru .nil)) ?_,rfl,q⟩
 rw [List.length_append,List.length_singleton]
 omega
def Xh : V → List V → Hp → VK → Prop:=fun x vs H Q => ∃ l b xs zs,x = .ref l ∧ vs = [.ref b] ∧ H l = some (.lst xs) ∧ H b = some (.lst zs) ∧ xs.length + zs.length ≤ sizeLine ∧ Q .aC (upd H l (.lst (xs ++ zs)))
theorem K6 : EY X "list.extend" Xh:=by
 intro pins s σ H x vs v us Q I rx rv h
 obtain ⟨l,b,xs,zs,rfl,rfl,hH,hB,hz,q⟩:=h
 cases rx
 obtain ⟨u,rfl,ru⟩:=rv.one
 cases ru
 obtain ⟨z,its,n,r,hl,e⟩:=I.mv hH
 obtain ⟨z2,its2,n2,r2,hl2,e2⟩:=I.mv hB
 have hsz : its.toArray.size + its2.toArray.size ≤ sizeLine:=by rw [List.size_toArray,List.size_toArray]; omega
 have hlong : ¬ (!its.toArray.isEmpty && Builtin.List.listTooLong (its.toArray.size + its2.toArray.size)) = true:=by
  rw [aaN hsz,Bool.and_false]
  exact Bool.false_ne_true
 refine call_meets F.slot_list_extend ⟨_,e,rfl⟩ F.entry_list_extend (F.args_list_extend_2 _ _)
  (AutoSeq1.list_extend_list_list_0 l its.toArray n b its2.toArray n2 hlong (by rw [List.size_toArray]; omega) (by omega)) ⟨e,e2,?_⟩
 refine ⟨.aC,_,I.xb (its':=its ++ its2) hH e (by simp) (r.append r2) ?_,rfl,q⟩
 rw [List.length_append]
 omega
def Xc : V → List V → Hp → VK → Prop:=fun x vs H Q => ∃ l xs i k y,x = .ref l ∧ vs = [.int i] ∧ H l = some (.lst xs) ∧ -(2 ^ 63) ≤ i ∧ i < 2 ^ 63 ∧ seqIndex? i xs.length = some k ∧ xs[k]? = some y ∧ Q y (upd H l (.lst (xs.eraseIdx k)))
theorem aaZ : EY X "list.pop" Xc:=by
 intro pins s σ H x vs v us Q I rx rv h
 obtain ⟨l,xs,i,k,y,rfl,rfl,hH,h1,h2,hk,hy,q⟩:=h
 cases rx
 obtain ⟨u,rfl,ru⟩:=rv.one
 obtain ⟨t,rfl⟩:=ru
 obtain ⟨z,its,n,r,hl,e⟩:=I.mv hH
 obtain ⟨w,hw,rw'⟩:=r.get hy
 refine call_meets F.slot_list_pop ⟨_,e,rfl⟩ F.entry_list_pop (F.args_list_pop_2 _ _)
  (MeetsSeq.list_pop_at l its.toArray n i t k w (fitsIndex_both h1 h2) (by rw [List.size_toArray,← hl]; exact hk) (by rw [← Array.getElem?_toList]; exact hw) (by rw [List.size_toArray]; omega)) ⟨e,?_⟩
 refine ⟨y,_,I.xb (its':=its.eraseIdx k) hH e ?_ (r.eraseIdx k) ?_,rw',q⟩
 ·show its.toArray.eraseIdxIfInBounds k = (its.eraseIdx k).toArray
  rw [List.eraseIdxIfInBounds_toArray]
 ·have:=Ly xs k
  omega
def Xj : R2:=fun x y H Q => ∃ l b xs zs,x = .ref l ∧ y = .ref b ∧ H l = some (.lst xs) ∧ H b = some (.lst zs) ∧ xs.length + zs.length ≤ sizeLine ∧ ∀ p,H p = none → Q (.ref p) (upd H p (.lst (xs ++ zs)))
theorem vP : c9 X (binaryOp .Add) Xj:=by
 intro pins s σ H x y v u Q I rx ry h
 obtain ⟨l,b,xs,zs,rfl,rfl,hH,hB,hz,q⟩:=h
 cases rx
 cases ry
 obtain ⟨z,its,n,r,hl,e⟩:=I.mv hH
 obtain ⟨z2,its2,n2,r2,hl2,e2⟩:=I.mv hB
 refine PySem.P.add_list e e2 ?_ (by rw [List.size_toArray,List.size_toArray]; omega)
 have ea : its.toArray ++ its2.toArray = (its ++ its2).toArray:=by simp
 rw [ea]
 exact ⟨.ref _,_,I.abc (t':=s.toks) (r.append r2) (by rw [List.length_append]; omega),rfl,q _ I.fresh⟩
end
section
variable {prog : Program} {w : World} {A : Around} {E : Value → Shared → Prop} {s : Shared}
end
section
variable {X : Cx}
end
end L2
namespace L2
open PySem PySem.Spec PyProof.Rows
theorem Vals.ints : ∀ {ns : List Int} {us : List Value},Vals (ns.map V.int) us → IntsAre us ns
 | [],us,h => by
   rw [List.map_nil] at h
   cases h
   exact IntsAre.nil
 | n :: ns,us,h => by
   rw [List.map_cons] at h
   cases h with
   | cons r t =>
     obtain ⟨k,rfl⟩:=r
     exact IntsAre.cons n k (Vals.ints t)
theorem Vals.QR : ∀ {bs : List Bool} {us : List Value},Vals (bs.map V.bl) us → us = bs.map Value.bool
 | [],us,h => by
   rw [List.map_nil] at h
   cases h
   rfl
 | b :: bs,us,h => by
   rw [List.map_cons] at h
   cases h with
   | cons r t =>
     cases r
     rw [Vals.QR t,List.map_cons]
theorem Vals.IH {a : Addr} {us : List Value} (r : Vals [V.ref a] us) : us = [Value.ref a]:=by
 cases r with
 | cons r t =>
   cases t
   cases r
   rfl
section
variable {prog : Program} {w : World} {A : Around} {E : Value → Shared → Prop} {s : Shared} {l : Addr} {its : List Value} {ns : List Int} {Q : Value → Shared → Prop}
theorem Ub (hh : A.handled = none) (hl : s.heap.IsList l its.toArray) (hi : IntsAre its ns)
 (h : ∀ h' tk t',(∀ b o,s.heap.get? b = some o → h'.get? b = some o) → Q (.int ns.sum t') { s with heap:=h',toks:=tk }) : wpAny (model prog w) A (call (.builtin "sum") [.ref l]) Q E s:=by
 obtain ⟨xs,e⟩:=hi.allInts.items
 have hn : numsOf (intItems xs).toList = ns:=by rw [← e]; exact hi.numsOf
 rw [nums_intItems] at hn
 rw [e] at hl
 refine PySem.sum_intListG hh hl fun h' tk t' hk => ?_
 have:=h h' tk t' hk
 rw [preSum_eq,List.take_of_length_le (by simp),hn]; exact this
end
section
variable {X : Cx}
def W9 (K : PySem.W.Frag) : List V → Hp → VK → Prop:=fun vs H Q => ∃ (a : Addr) (ns : List Int),vs = [V.ref a] ∧ az K H a (ns.map V.int) ∧ Q (.int ns.sum) H
theorem adt (hc : X.calm = true) : ic X (.builtin "sum") (W9 X.K):=by
 intro pins s σ H vs us Q I r h
 obtain ⟨a,ns,rfl,hs,q⟩:=h
 obtain ⟨its,rv,hl,_⟩:=I.list hs
 rw [Vals.IH r]
 exact Ub (I.ok.hd hc) hl.isList rv.ints fun h' tk t' hk => ⟨.int _,H,I.kept hk,⟨_,rfl⟩,q⟩
end
section
variable {X : Cx}
end
section
variable {X : Cx}
end
theorem aby {prog : Program} {w : World} {A : Around} {E : Value → Shared → Prop} {s : Shared} {l : Addr} {items : Array Value} {Q : Value → Shared → Prop} (hl : s.heap.IsList l items)
 (h : ∀ s₂ : Shared,s₂ = { s with heap:=s.heap.push { cls:=.type "list_iterator",data:=.fields #[.ref l,.int 0 0] } } →
  (s₂.heap.IsListIter s.heap.objs.size l 0 ∧ s₂.heap.IsList l items) → l ≠ s.heap.objs.size → Q (.ref s.heap.objs.size) s₂) : wpAny (model prog w) A (pyIter (.ref l)) Q E s:=by
 have hlt : l < s.heap.objs.size:=by obtain ⟨_,e,_⟩:=hl; exact Heap.lt_size e
 exact wpAny_pyIter_list hl (h _ rfl ⟨⟨_,Heap.get?_push_size _ rfl,rfl,rfl⟩,hl.push _⟩ (Nat.ne_of_lt hlt))
theorem Te {prog : Program} {w : World} {A : Around} {bs : List Bool} {its : List Value} (e : its = bs.map Value.bool) :
 TruthOf prog w A (fun i v => its.toArray[i]? = some v) (fun i => bs.getD i false):=fun i v s Q E hv hq => by
 have hv' : its[i]? = some v:=by simpa using hv
 rw [e,List.getElem?_map] at hv'
 obtain ⟨b,hb,rfl⟩:=Option.map_eq_some_iff.mp hv'
 have hg : bs.getD i false = b:=by rw [List.getD_eq_getElem?_getD,hb] <;> rfl
 have hq' : Q (bs.getD i false) s:=hq
 rw [hg] at hq'
 exact wpAny_truthy_bool hq'
theorem all_range : ∀ bs : List Bool,(List.range bs.length).all (fun i => bs.getD i false) = bs.all id
 | [] => rfl
 | b :: bs => by
   rw [List.length_cons,List.range_succ_eq_map,List.all_cons,List.all_map,List.all_cons,← all_range bs]
   all_goals rfl
section
variable {X : Cx}
def Xl (K : PySem.W.Frag) : List V → Hp → VK → Prop:=fun vs H Q => ∃ (a : Addr) (bs : List Bool),vs = [V.ref a] ∧ az K H a (bs.map V.bl) ∧ Q (.bl (bs.all id)) H
theorem adu (hc : X.calm = true) : ic X (.builtin "all") (Xl X.K):=by
 intro pins s σ H vs us Q I r h
 obtain ⟨a,bs,rfl,hs,q⟩:=h
 obtain ⟨its,rv,hl,_⟩:=I.list hs
 rw [Vals.IH r]
 have hb:=rv.QR
 refine call_all_walk (aby hl.isList fun s₂ e2 st hne => ?_)
 subst e2
 refine ⟨_,_,_,_,_,_,_,rfl,Walks.list (A:=X.A.in1) (I.ok.hd hc) _ a hne its.toArray,st,Te hb,fun h' tk hk => ?_⟩
 refine ⟨.bl _,H,I.kept fun b o eo => hk b o (fun hmem => ?_) (Heap.get?_push_of_some _ eo),?_,q⟩
 ·rcases List.mem_cons.mp hmem with e1 | hmem
  ·exact absurd (e1 ▸ Heap.lt_size eo) (Nat.lt_irrefl _)
  ·cases hmem
 ·show Value.bool _ = Value.bool _
  rw [← all_range,hb,List.size_toArray,List.length_map]
end
mutual
inductive Dp (K : PySem.W.Frag) (H : Hp) : V → PyData → Prop
 | aC : Dp K H .aC .none
 | bl (b : Bool) : Dp K H (.bl b) (.bool b)
 | int (i : Int) : Dp K H (.int i) (.int i)
 | str (x : Str) : Dp K H (.str x) (.str x)
 | lst {a : Addr} {xs : List V} {ds : List PyData} : az K H a xs → lQ K H xs ds → Dp K H (.ref a) (.list ds)
 | tup {a : Addr} {xs : List V} {ds : List PyData} : a4 K H a xs → lQ K H xs ds → Dp K H (.ref a) (.tuple ds)
inductive lQ (K : PySem.W.Frag) (H : Hp) : List V → List PyData → Prop
 | nil : lQ K H [] []
 | cons {v : V} {vs : List V} {d : PyData} {ds : List PyData} : Dp K H v d → lQ K H vs ds → lQ K H (v :: vs) (d :: ds)
end
section
variable {X : Cx} {pins : List (Addr × Obj)} {σ : St} {H : Hp} {s : Shared}
mutual
theorem Dp.reads (I : Inv X pins σ H s) : ∀ (d : PyData) (v : V) (u : Value),Dp X.K H v d → RelV v u → ∃ as,Reads s.heap u d as
 | .none,_,_,h,r => by
   cases h
   cases r
   exact ⟨_,Reads.none⟩
 | .bool b,_,_,h,r => by
   cases h
   cases r
   exact ⟨_,Reads.bool b⟩
 | .int i,_,_,h,r => by
   cases h
   obtain ⟨t,rfl⟩:=r
   exact ⟨_,Reads.int i t⟩
 | .str x,_,_,h,r => by
   cases h
   obtain ⟨t,rfl⟩:=r
   exact ⟨_,Reads.str x t⟩
 | .list ds,_,_,h,r => by
   cases h with
   | lst hs ha =>
     cases r
     obtain ⟨its,rv,⟨o,n,ho,hc,_,hd⟩,_⟩:=I.list hs
     obtain ⟨as,hr⟩:=Dp.readsAll I ds _ its ha rv
     exact ⟨_,Reads.list ho hc hd hr⟩
 | .tuple ds,_,_,h,r => by
   cases h with
   | tup hs ha =>
     cases r
     obtain ⟨its,rv,⟨o,ho,hc,n,hd⟩,_⟩:=I.tuple hs
     obtain ⟨as,hr⟩:=Dp.readsAll I ds _ its ha rv
     exact ⟨_,Reads.tuple ho hc hd hr⟩
 | .dict _,_,_,h,_ => by cases h
theorem Dp.readsAll (I : Inv X pins σ H s) : ∀ (ds : List PyData) (vs : List V) (us : List Value),lQ X.K H vs ds → Vals vs us → ∃ as,ReadsAll s.heap us ds as
 | [],_,_,h,r => by
   cases h
   cases r
   exact ⟨_,ReadsAll.nil⟩
 | d :: ds,_,_,h,r => by
   cases h with
   | cons h1 h2 =>
     cases r with
     | cons r1 r2 =>
       obtain ⟨as,q1⟩:=Dp.reads I d _ _ h1 r1
       obtain ⟨bs,q2⟩:=Dp.readsAll I ds _ _ h2 r2
       exact ⟨_,ReadsAll.cons q1 q2⟩
end
end
section
variable {X : Cx}
def IM (K : PySem.W.Frag) : R2:=fun x y H Q => ∃ d e,Dp K H x d ∧ Dp K H y e ∧ SeqAt.shaped d = true ∧ SeqAt.shaped e = true ∧ Q (.bl (PyData.eqv d e)) H
theorem vO (hu : X.A.units + 64 < cLine) : c9 X (compareOp .Eq) (IM X.K):=by
 intro pins s σ H x y v u Q I rx ry h
 obtain ⟨d,e,hd,he,sd,se,q⟩:=h
 obtain ⟨as,r1⟩:=Dp.reads I d x v hd rx
 obtain ⟨bs,r2⟩:=Dp.reads I e y u he ry
 exact SeqAt.compareEq_shaped r1 r2 sd se hu ⟨.bl _,H,I,rfl,q⟩
end
end L2
namespace L2
open PySem PySem.Spec PyProof.Rows
abbrev SG (h : Heap) (c : Addr) (v : Option Value) : Prop:=h.IsCell c v
def WZ (scope sc : Scope) : Scope :=
 { scope with names:=scope.names.map fun (n,k) => if (k == .free && sc.kind == .function && sc.names.lookup n == some .cell) then (n,.cell) else (n,k) }
def cR (cells : List (Str × Addr)) : List (Str × NameKind) → List (Str × Addr) → List (Str × Addr)
 | [],acc => acc
 | (n,k) :: r,acc => if k == .free then cR cells r ((n,(cells.lookup n).getD 0) :: acc) else cR cells r acc
theorem Qz (env : Env) (f : Str × NameKind → List (Str × Addr) → Sem (ForInStep (List (Str × Addr))))
 (hf : ∀ n k c,f (n,k) c = if k == .free then (do let a ← cellOf env n; pure (.yield ((n,a) :: c))) else pure (.yield c)) :
 ∀ (names : List (Str × NameKind)) (acc : List (Str × Addr)),(∀ y ∈ names,y.2 = .free → ∃ c,env.cells.lookup y.1 = some c) → forIn names acc f = pure (cR env.cells names acc)
 | [],acc,_ => by rw [List.forIn_nil]; rfl
 | (n,k) :: r,acc,h => by
   rw [List.forIn_cons,hf]
   have ih:=fun acc => Qz env f hf r acc fun y hy => h y (List.mem_cons_of_mem _ hy)
   unfold cR
   by_cases hk : (k == NameKind.free) = true
   ·rw [if_pos hk,if_pos hk]
    obtain ⟨c,hc⟩:=h (n,k) List.mem_cons_self (by simpa using hk)
    have e : cellOf env n = pure c:=by unfold cellOf; rw [hc]
    rw [e]
    have e2 : (env.cells.lookup n).getD 0 = c:=by rw [hc]; rfl
    rw [e2]
    exact ih _
   ·rw [if_neg hk,if_neg hk]
    exact ih _
theorem adx {scope : Scope} {env : Env} (h : ∀ y ∈ scope.names,y.2 = .free → ∃ c,env.cells.lookup y.1 = some c) : closureFor scope env = pure (cR env.cells scope.names []):=by
 simp only [closureFor]
 rw [Qz env _ (fun n k c => rfl) scope.names [] h]
 rfl
theorem mem_lookup {α : Type} : ∀ {l : List (Str × α)} {n : Str} {c : α},(n,c) ∈ l → ∃ c',l.lookup n = some c'
 | (k,v) :: r,n,c,h => by
   rw [List.lookup_cons]
   cases hb : n == k with
   | true => exact ⟨_,rfl⟩
   | false =>
     rcases List.mem_cons.mp h with e | h
     ·cases e; simp at hb
     ·exact mem_lookup h
theorem sj {cells : List (Str × Addr)} : ∀ {names : List (Str × NameKind)} {acc : List (Str × Addr)} {n : Str} {c : Addr},(n,c) ∈ cR cells names acc → (n,c) ∈ acc ∨ ((n,.free) ∈ names ∧ c = (cells.lookup n).getD 0)
 | [],_,_,_,h => .inl h
 | (m,k) :: r,acc,n,c,h => by
   unfold cR at h
   split at h
   ·rename_i hk
    have hk : k = .free:=by simpa using hk
    rcases sj h with h | ⟨h1,h2⟩
    ·rcases List.mem_cons.mp h with e | h
     ·cases e; exact .inr ⟨hk ▸ List.mem_cons_self,rfl⟩
     ·exact .inl h
    ·exact .inr ⟨List.mem_cons_of_mem _ h1,h2⟩
   ·rcases sj h with h | ⟨h1,h2⟩
    ·exact .inl h
    ·exact .inr ⟨List.mem_cons_of_mem _ h1,h2⟩
theorem Bx {cells : List (Str × Addr)} : ∀ {names : List (Str × NameKind)} {acc : List (Str × Addr)} {p : Str × Addr},p ∈ acc → p ∈ cR cells names acc
 | [],_,_,h => h
 | (m,k) :: r,acc,p,h => by
   unfold cR
   split
   ·exact Bx (List.mem_cons_of_mem _ h)
   ·exact Bx h
theorem Bw {cells : List (Str × Addr)} : ∀ {names : List (Str × NameKind)} {acc : List (Str × Addr)} {n : Str},(n,.free) ∈ names → (n,(cells.lookup n).getD 0) ∈ cR cells names acc
 | (m,k) :: r,acc,n,h => by
   unfold cR
   rcases List.mem_cons.mp h with e | h
   ·cases e
    exact Bx List.mem_cons_self
   ·split
    ·exact Bw h
    ·exact Bw h
theorem n6 : ∀ {names : List (Str × NameKind)} {h : Heap} {acc : List (Str × Addr)} {x : Str} {c : Addr},(x,c) ∈ cellsFrom h.objs.size names acc →
 (x,c) ∈ acc ∨ ((x,.cell) ∈ names ∧ h.objs.size ≤ c ∧ SG (pushCells h names) c none)
 | [],_,_,_,_,h => .inl h
 | (n,k) :: r,h,acc,x,c,hm => by
   unfold cellsFrom at hm
   unfold pushCells
   split at hm
   ·rename_i hk
    rw [if_pos hk]
    have hk : k = .cell:=by simpa using hk
    rw [← Heap.size_push h { cls:=.type "cell",data:=.cell none }] at hm
    rcases n6 hm with hm | ⟨h1,h2,h3⟩
    ·rcases List.mem_cons.mp hm with e | hm
     ·cases e
      exact .inr ⟨hk ▸ List.mem_cons_self,Nat.le_refl _,_,pushCells_keeps r _ _ _ (Heap.get?_push_size _ rfl),rfl⟩
     ·exact .inl hm
    ·rw [Heap.size_push] at h2
     exact .inr ⟨List.mem_cons_of_mem _ h1,Nat.le_of_succ_le h2,h3⟩
   ·rename_i hk
    rw [if_neg hk]
    rcases n6 hm with hm | ⟨h1,h2,h3⟩
    ·exact .inl hm
    ·exact .inr ⟨List.mem_cons_of_mem _ h1,h2,h3⟩
theorem sr : ∀ {names : List (Str × NameKind)} {n : Nat} {acc : List (Str × Addr)} {p : Str × Addr},p ∈ acc → p ∈ cellsFrom n names acc
 | [],_,_,_,h => h
 | (m,k) :: r,n,acc,p,h => by
   unfold cellsFrom
   split
   ·exact sr (List.mem_cons_of_mem _ h)
   ·exact sr h
theorem BA : ∀ {names : List (Str × NameKind)} {n : Nat} {acc : List (Str × Addr)} {x : Str},(x,.cell) ∈ names → ∃ c,(x,c) ∈ cellsFrom n names acc
 | (m,k) :: r,n,acc,x,h => by
   unfold cellsFrom
   rcases List.mem_cons.mp h with e | h
   ·cases e
    exact ⟨n,sr List.mem_cons_self⟩
   ·split
    ·exact BA h
    ·exact BA h
theorem Bz : ∀ {names : List (Str × NameKind)} {h : Heap} {acc : List (Str × Addr)} {x y : Str} {c : Addr},(∀ p ∈ acc,p.2 < h.objs.size) → (∀ x y c,(x,c) ∈ acc → (y,c) ∈ acc → x = y) →
 (x,c) ∈ cellsFrom h.objs.size names acc → (y,c) ∈ cellsFrom h.objs.size names acc → x = y
 | [],_,_,_,_,_,_,hi,h1,h2 => hi _ _ _ h1 h2
 | (n,k) :: r,h,acc,x,y,c,hl,hi,h1,h2 => by
   unfold cellsFrom at h1 h2
   split at h1
   ·rename_i hk
    rw [if_pos hk] at h2
    rw [← Heap.size_push h { cls:=.type "cell",data:=.cell none }] at h1 h2
    refine Bz (h:=h.push _) (fun p hp => ?_) (fun x y c a b => ?_) h1 h2
    ·rw [Heap.size_push]
     rcases List.mem_cons.mp hp with rfl | hp
     ·exact Nat.lt_succ_self _
     ·exact Nat.lt_succ_of_lt (hl p hp)
    ·rcases List.mem_cons.mp a with e | a <;> rcases List.mem_cons.mp b with e' | b
     ·cases e; cases e'; rfl
     ·cases e; exact absurd (hl _ b) (Nat.lt_irrefl _)
     ·cases e'; exact absurd (hl _ a) (Nat.lt_irrefl _)
     ·exact hi _ _ _ a b
   ·rename_i hk
    rw [if_neg hk] at h2
    exact Bz hl hi h1 h2
theorem aaV {M : Model} {A : Around} {E : Value → Shared → Prop} {s : Shared} {scope : Scope} {globals : Addr} {closure : List (Str × Addr)} {qual : Str} {func : Option Addr} {code : Value} {around : Env} {builtins : Addr} {Q : Env → Shared → Prop}
 (h : Q (newEnv scope s.heap.objs.size globals (cellsFrom (s.heap.objs.size + 1) scope.names closure) qual func code (some around) builtins)
  { s with heap:=pushCells (s.heap.push { cls:=.type "dict",data:=.dict #[] }) scope.names }) :
 wpAny M A (newFunctionEnv scope globals closure [] qual func code (some around) builtins) Q E s:=by
 simp only [newFunctionEnv,Option.isSome_some,if_true]
 refine wpAny_bind (wpAny_alloc ?_)
 refine wpAny_bind (wpAny_layCells _ (fun n k c => rfl) scope.names closure _ _ ?_)
 rw [show ({ s with heap:=s.heap.push { cls:=.type "dict",data:=.dict #[] } } : Shared).heap.objs.size = s.heap.objs.size + 1 from Heap.size_push ..]
 rw [List.forIn_nil]
 exact wpAny_bind (wpAny_pure (wpAny_pure h))
theorem xc {sc : Scope} : ∀ {names : List (Str × NameKind)} {x : Str} {k : NameKind},
 (names.map fun (n,k) => if (k == NameKind.free && sc.kind == .function && sc.names.lookup n == some .cell) then (n,NameKind.cell) else (n,k)).lookup x = some k →
 ∃ k',names.lookup x = some k' ∧ (k = k' ∨ (k' = .free ∧ k = .cell))
 | [],_,_,h => by simp at h
 | (n,k₀) :: r,x,k,h => by
   have ih:=@xc sc r x k
   have h' : List.lookup x ((if (k₀ == NameKind.free && sc.kind == .function && sc.names.lookup n == some .cell) = true then (n,NameKind.cell) else (n,k₀)) :: (r.map _)) = some k:=h
   cases hx : x == n with
   | true =>
     simp only [List.lookup_cons,hx]
     by_cases hc : (k₀ == NameKind.free && sc.kind == .function && sc.names.lookup n == some .cell) = true
     ·rw [if_pos hc] at h'
      simp only [List.lookup_cons,hx] at h'
      cases h'
      simp only [Bool.and_eq_true,beq_iff_eq] at hc
      exact ⟨k₀,rfl,.inr ⟨hc.1.1,rfl⟩⟩
     ·rw [if_neg hc] at h'
      simp only [List.lookup_cons,hx] at h'
      cases h'
      exact ⟨_,rfl,.inl rfl⟩
   | false =>
     simp only [List.lookup_cons,hx]
     by_cases hc : (k₀ == NameKind.free && sc.kind == .function && sc.names.lookup n == some .cell) = true
     ·rw [if_pos hc] at h'
      simp only [List.lookup_cons,hx] at h'
      exact ih h'
     ·rw [if_neg hc] at h'
      simp only [List.lookup_cons,hx] at h'
      exact ih h'
structure tR (N : List Str) (sc scope : Scope) (own : List (Str × Nat)) : Prop where
 kind : scope.kind = .function
 uniq : ∀ y ∈ scope.names,scope.names.lookup y.1 = some y.2
 ix : ∀ p ∈ own,N[p.2]? = some p.1
 free : ∀ y ∈ scope.names,y.2 = .free → sc.names.lookup y.1 = some .cell ∨ sc.names.lookup y.1 = some .free
 own : ∀ y ∈ scope.names,y.2 = .local ∨ y.2 = .cell → y.1 ∈ own.map (·.1) ∨ y.1 ∉ N
def wipe (σ : St) : List Nat → St
 | [] => σ
 | v :: vs => (wipe σ vs).set v none
theorem tW (σ : St) : ∀ vs : List Nat,(wipe σ vs).length = σ.length
 | [] => rfl
 | v :: vs => by unfold wipe; rw [List.length_set,tW σ vs]
theorem tV {σ : St} {i : Nat} {x : V} : ∀ {vs : List Nat},(wipe σ vs)[i]? = some (some x) → σ[i]? = some (some x) ∧ i ∉ vs
 | [],h => ⟨h,by simp⟩
 | v :: vs,h => by
   unfold wipe at h
   by_cases hi : v = i
   ·subst hi
    by_cases hv : v < (wipe σ vs).length
    ·rw [List.getElem?_set_self hv] at h; cases h
    ·rw [List.getElem?_eq_none (by simpa using hv)] at h; cases h
   ·rw [List.getElem?_set_ne hi] at h
    obtain ⟨h1,h2⟩:=tV h
    exact ⟨h1,by simp only [List.mem_cons,not_or]; exact ⟨fun e => hi e.symm,h2⟩⟩
abbrev Cx.dG (X : Cx) (s : Shared) (H : Hp) (scope : Scope) (cenv : Env) (fp : List Addr) : Cx:={ X with cV:=s,lL:=H,env:=cenv,outer:=X.stack,ex:=fp,fn:=fun x => scope.names.lookup x == some .cell,pn:=[],xe:=fun _ _ => False }
section
variable {X : Cx} {pins : List (Addr × Obj)} {σ : St} {H : Hp} {s : Shared}
theorem adS {scope : Scope} {own : List (Str × Nat)} {fp : List Addr} (I : Inv X pins σ H s) (ok : tR X.N X.env.scope scope own) (hN : X.N.Nodup) (hfp : ∀ b ∈ fp,eX X pins H b ∧ b < s.heap.objs.size) :
 Inv (X.dG s H scope (compEnvC scope (cellsFrom (s.heap.objs.size + 1) scope.names (cR X.env.cells scope.names [])) s.heap.objs.size X.env) fp) [] (wipe σ (own.map (·.2))) H { s with heap:=pushCells (s.heap.push { cls:=.type "dict",data:=.dict #[] }) scope.names }:=by
 have hfree : ∀ y ∈ scope.names,y.2 = .free → ∃ c,X.env.cells.lookup y.1 = some c:=fun y hy e => by
  rcases ok.free y hy e with k | k
  ·exact I.ok.has _ (.inl k)
  ·exact I.ok.has _ (.inr k)
 generalize hcenv : compEnvC scope (cellsFrom (s.heap.objs.size + 1) scope.names (cR X.env.cells scope.names [])) s.heap.objs.size X.env = cenv
 have kp : ∀ b o,s.heap.get? b = some o → (pushCells (s.heap.push { cls:=.type "dict",data:=.dict #[] }) scope.names).get? b = some o:=fun b o e => pushCells_keeps _ _ _ _ (Heap.get?_push_of_some _ e)
 have hL : cenv.locals = s.heap.objs.size:=by rw [← hcenv]; rfl
 have hcl : cenv.cells = cellsFrom (s.heap.objs.size + 1) scope.names (cR X.env.cells scope.names []):=by rw [← hcenv]; rfl
 have hsc : cenv.scope = WZ scope X.env.scope:=by rw [← hcenv]; rfl
 rw [← Heap.size_push s.heap { cls:=.type "dict",data:=.dict #[] }] at hcl
 have cm : ∀ {y c},(y,c) ∈ cR X.env.cells scope.names [] → X.env.cells.lookup y = some c ∧ c < s.heap.objs.size:=fun {y c} hm => by
  rcases sj hm with hm | ⟨h1,rfl⟩
  ·cases hm
  ·obtain ⟨c,hc⟩:=hfree _ h1 rfl
   rw [hc]
   obtain ⟨w,z⟩:=I.cell _ _ hc
   exact ⟨rfl,z.lt⟩
 have mem : ∀ {y c},cenv.cells.lookup y = some c → (X.env.cells.lookup y = some c ∧ c < s.heap.objs.size) ∨ (s.heap.objs.size + 1 ≤ c ∧ SG (pushCells (s.heap.push { cls:=.type "dict",data:=.dict #[] }) scope.names) c none):=fun {y c} e => by
  rw [hcl] at e
  rcases n6 (PySem.mem_of_lookup e) with hm | ⟨_,h2,h3⟩
  ·exact .inl (cm hm)
  ·rw [Heap.size_push] at h2; exact .inr ⟨h2,h3⟩
 have look : ∀ {y},scope.names.lookup y = some .free → ∃ c,cenv.cells.lookup y = some c ∧ X.env.cells.lookup y = some c:=fun {y} hl => by
  have hy : (y,NameKind.free) ∈ scope.names:=PySem.mem_of_lookup hl
  obtain ⟨c',e'⟩:=mem_lookup (sr (names:=scope.names) (n:=(s.heap.push { cls:=.type "dict",data:=.dict #[] }).objs.size) (Bw (cells:=X.env.cells) (acc:=[]) hy))
  rw [← hcl] at e'
  refine ⟨c',e',?_⟩
  rw [hcl] at e'
  rcases n6 (PySem.mem_of_lookup e') with hm | ⟨h1,_,_⟩
  ·exact (cm hm).1
  ·have:=ok.uniq _ h1
   rw [hl] at this; cases this
 have okB : (X.dG s H scope cenv fp).Ok:=by
  refine ⟨I.ok.mod,by show cenv.scope.kind = _; rw [hsc]; exact ok.kind,by show cenv.globals = _; rw [← hcenv]; exact I.ok.glob,by show cenv.builtins = _; rw [← hcenv]; exact I.ok.blt,by show s.heap.objs.size ≤ cenv.locals; rw [hL]; exact Nat.le_refl _,
   fun y z c e1 e2 => ?_,fun y hy => ?_,fun y c z e => ?_,I.ok.hd,I.ok.frames,.inl rfl,fun b hb => ⟨?_,fun y c e z => ?_⟩,I.bs,Nat.le_trans I.ok.kb I.sz,fun b o e hb => ?_,fun b hb z => ?_,I.stack,I.GZ⟩
  ·have e1 : cenv.cells.lookup y = some c:=e1
   have e2 : cenv.cells.lookup z = some c:=e2
   rw [hcl] at e1 e2
   refine Bz (fun p hp => ?_) (fun y z c a b => I.ok.inj y z c (cm a).1 (cm b).1) (PySem.mem_of_lookup e1) (PySem.mem_of_lookup e2)
   rw [Heap.size_push]
   exact Nat.lt_succ_of_lt (cm (y:=p.1) (c:=p.2) hp).2
  ·show ∃ c,cenv.cells.lookup y = some c
   have key : ∀ k,cenv.kindOf y = some k → (k = .cell ∨ k = .free) → ∃ c,cenv.cells.lookup y = some c:=fun k hk hk' => by
    unfold Env.kindOf at hk
    rw [hsc] at hk
    obtain ⟨k',e,r⟩:=xc hk
    have : k' = .cell ∨ k' = .free:=by
     rcases r with rfl | ⟨rfl,_⟩
     ·exact hk'
     ·exact .inr rfl
    rcases this with rfl | rfl
    ·obtain ⟨c,hm⟩:=BA (n:=(s.heap.push { cls:=.type "dict",data:=.dict #[] }).objs.size) (acc:=cR X.env.cells scope.names []) (PySem.mem_of_lookup e)
     obtain ⟨c',e'⟩:=mem_lookup hm
     exact ⟨c',by rw [hcl]; exact e'⟩
    ·obtain ⟨c,h1,_⟩:=look e
     exact ⟨c,h1⟩
   rcases hy with hy | hy
   ·exact key _ hy (.inl rfl)
   ·exact key _ hy (.inr rfl)
  ·have z : (scope.names.lookup y == some NameKind.cell) = true:=z
   have z : scope.names.lookup y = some .cell:=by simpa using z
   have e : cenv.cells.lookup y = some c:=e
   rw [hcl] at e
   rcases n6 (PySem.mem_of_lookup e) with hm | ⟨_,h2,_⟩
   ·rcases sj hm with hm | ⟨h1,_⟩
    ·cases hm
    ·have q:=ok.uniq _ h1
     rw [z] at q; cases q
   ·rw [Heap.size_push] at h2
    exact Nat.le_of_succ_le h2
  ·show b ≠ cenv.locals
   rw [hL]; exact Nat.ne_of_lt (hfp b hb).2
  ·have e : cenv.cells.lookup y = some c:=e
   rcases mem e with ⟨h1,_⟩ | ⟨h1,_⟩
   ·exact (hfp b hb).1.2.2.2.2.1 y c h1 z
   ·have h2 : s.heap.objs.size + 1 ≤ b:=by rw [← z]; exact h1
    exact absurd (Nat.lt_of_lt_of_le (hfp b hb).2 (Nat.le_of_succ_le h2)) (Nat.lt_irrefl _)
  ·rcases (hfp b hb).1.2.2.2.1 with z | z
   ·exact I.ok.nJ b o e z
   ·exact absurd (Nat.lt_of_lt_of_le (Heap.lt_size e) (Nat.le_trans I.ok.kb z)) (Nat.lt_irrefl _)
  ·rcases List.mem_cons.mp (I.ub b z) with z | z
   ·exact (hfp b hb).1.2.1 z
   ·exact (hfp b hb).1.2.2.1 z
 refine ⟨okB,rfl,I.bare,Un.kept kp,⟨fun _ => none,?_,fun i y av e1 e2 e3 => ?_⟩,fun y c e => ?_,?_,fun y c e => ?_,fun p hp => ?_,I.ax.kept kp,by rw [tW]; exact I.len⟩
 ·show Heap.Ns _ cenv.locals _
  rw [hL]
  exact Heap.Ns.keeps (Heap.Ns.new ..) fun b o e => pushCells_keeps _ _ _ _ e
 ·obtain ⟨e2,hne⟩:=tV e2
  have hfr : scope.names.lookup y = some .free ∧ (cenv.kindOf y = some .cell ∨ cenv.kindOf y = some .free):=by
   have key : ∀ k,cenv.scope.names.lookup y = some k → k = .local ∨ k = .cell ∨ k = .free → scope.names.lookup y = some .free ∧ (cenv.kindOf y = some .cell ∨ cenv.kindOf y = some .free):=fun k hk hk' => by
    have hk0:=hk
    rw [hsc] at hk
    obtain ⟨k',e,r⟩:=xc hk
    have no : ¬ (k' = .local ∨ k' = .cell):=fun hh => by
     rcases ok.own _ (PySem.mem_of_lookup e) hh with e' | e'
     ·obtain ⟨p,hp,hpy⟩:=List.mem_map.mp e'
      have e3:=ok.ix p hp
      have : p.1 = y:=hpy
      rw [this] at e3
      exact hne (List.mem_map.mpr ⟨p,hp,vV hN e3 e1⟩)
     ·exact e' (List.mem_of_getElem? e1)
    rcases r with rfl | ⟨rfl,rfl⟩
    ·rcases hk' with rfl | rfl | rfl
     ·exact absurd (.inl rfl) no
     ·exact absurd (.inr rfl) no
     ·exact ⟨e,.inr hk0⟩
    ·exact ⟨e,.inl hk0⟩
   have e3 : ow cenv.scope y:=e3
   rcases e3 with e3 | e3 | e3
   ·exact key _ e3 (.inl rfl)
   ·exact key _ e3 (.inr (.inl rfl))
   ·exact key _ e3 (.inr (.inr rfl))
  obtain ⟨m,hn,hl⟩:=I.loc
  have hvis : ow X.env.scope y:=(ok.free _ (PySem.mem_of_lookup hfr.1) rfl).elim (fun k => .inr (.inl k)) (fun k => .inr (.inr k))
  obtain ⟨w,r,q⟩:=hl i y av e1 e2 hvis
  refine ⟨w,r,.inr ⟨hfr.2,?_⟩⟩
  obtain ⟨c,h1,h2⟩:=look hfr.1
  rcases q with ⟨k,_⟩ | ⟨_,c',e',z⟩
  ·have k : X.env.scope.names.lookup y = some .local:=k
   rcases ok.free _ (PySem.mem_of_lookup hfr.1) rfl with k' | k' <;> rw [show X.env.scope.names.lookup y = _ from k'] at k <;> cases k
  ·rw [h2] at e'; cases e'
   exact ⟨c,h1,z.keeps kp⟩
 ·have e : cenv.cells.lookup y = some c:=e
  rcases mem e with ⟨h1,_⟩ | ⟨_,z⟩
  ·obtain ⟨w,z⟩:=I.cell y c h1
   exact ⟨w,z.keeps kp⟩
  ·exact ⟨_,z⟩
 ·show H cenv.locals = none
  rw [hL]; exact I.ax.fresh (Nat.le_refl _)
 ·have e : cenv.cells.lookup y = some c:=e
  rcases mem e with ⟨h1,_⟩ | ⟨h1,_⟩
  ·exact I.eD y c h1
  ·exact I.ax.fresh (Nat.le_of_succ_le h1)
 ·exact absurd (show p ∈ ([] : List (Addr × Obj)) ++ [] from hp) (by simp)
theorem aeP {E : Value → Shared → Prop} {D : Addr} {xs : List V} {y : V} {v : Value} {Q : Value → Shared → Prop} (I : Inv X pins σ H s) (hD : H D = some (.lst xs)) (hz : xs.length < sizeLine) (r : RelV y v)
 (h : ∀ s',Inv X pins σ (upd H D (.lst (xs ++ [y]))) s' → Q .none s') : wpAny (model X.prog X.w) X.A (call (.builtin "list.append") [.ref D,v]) Q E s:=by
 obtain ⟨hz',its,n,ri,e⟩:=I.ax D _ hD
 have hl:=ri.length
 refine append_at (hsz:=by rw [List.size_toArray]; omega) e fun h' sb ho' => ?_
 refine h { s with heap:=h' } (I.write (t':=s.toks) (by rw [hD]; trivial) (.inl rfl) (fun b u hb q => (sb.2 b hb).trans q) ⟨_,ho'⟩ ⟨by rw [List.length_append]; exact hz,its ++ [v],n + 1,ri.append (.cons r .nil),?_⟩)
 rw [ho']
 simp
def sN (X : Cx) (ifs : List Expr) (t : TT) : Prop :=
 ∀ (pins : List (Addr × Obj)) (s : Shared) (σ : St) (H : Hp) (Q : Bool → Hp → Prop),Inv X pins σ H s → t σ H Q →
  wpAny (model X.prog X.w) X.A (forIn ifs true fun c r => if r = true then do let ok ← isTrue c X.env (eval c X.env); pure (ForInStep.yield ok) else pure (ForInStep.yield r)) (TP X pins σ Q) X.xe s
def To : TT:=fun _ H Q => Q true H
theorem uA : sN X [] To:=fun _ _ _ H _ I h => wpAny_tests_nil ⟨H,I,h⟩
theorem IP {c : Expr} {t : TT} (h : PT X c t) : sN X [c] t:=fun pins s σ H Q I hw => wpAny_tests_one (h pins s σ H Q I hw)
end
theorem lT {α : Type} {t : Sem α} {Q Q' : α → Shared → Prop} {M : Model} {A : Around} {E : Value → Shared → Prop} {s : Shared} (h : wpAny M A t Q (fun _ _ => False) s) (hQ : ∀ a s,Q a s → Q' a s) : wpAny M A t Q' E s:=wpAny_mono h hQ fun _ _ z => False.elim z
theorem adv {prog : Program} {w : World} {A : Around} {R : Result → Shared → Prop} {s : Shared} {elt target iter : Expr} {ifs : List Expr} {scope : Scope} {pos : Pos} {it acc : Value} {env : Env} (I : Nat → Shared → Prop)
 (turn : ∀ n s,I n s → wpAny (model prog w) A (pyNext it) (fun r s₁ => match r with
  | none => R (.ok .next) s₁
  | some v => wpAny (model prog w) A (letOwnedTupleGo target it v) (fun _ s₁' => wpAny (model prog w) A (assign target env v) (fun _ s₂ =>
   wpAny (model prog w) A (forIn ifs true fun c r => if r = true then do let ok ← isTrue c env (eval c env); pure (ForInStep.yield ok) else pure (ForInStep.yield r)) (fun ok s₃ =>
    if ok = true then wpAny (model prog w) A (eval elt env) (fun x s₄ =>
     wpAny (model prog w) A (call (.builtin "list.append") [acc,x]) (fun _ s₅ => ∃ m,m < n ∧ I m s₅) (notedBy (model prog w) A env fun e s' => R (.error e) s') s₄) (notedBy (model prog w) A env fun e s' => R (.error e) s') s₃
    else ∃ m,m < n ∧ I m s₃) (notedBy (model prog w) A env fun e s' => R (.error e) s') s₂) (notedBy (model prog w) A env fun e s' => R (.error e) s') s₁') (notedBy (model prog w) A env fun e s' => R (.error e) s') s₁) (notedBy (model prog w) A env fun e s' => R (.error e) s') s)
 (n : Nat) (h : I n s) :
 codeAny (model prog w) A (.compLoop (.ListComp elt [⟨target,iter,ifs,0⟩] scope pos) 0 it acc env) R s:=by
 refine codeAny_loop rfl I (fun n s hI => ?_) n h
 show wpAny _ A ((compTurn (.ListComp elt [⟨target,iter,ifs,0⟩] scope pos) 0 it acc env).onRaise (fun x => do noteFrame x env; theTreesLotGoes x)) _ _ s
 refine wpAny_noted ?_
 rw [compTurn_list]
 refine wpAny_bind (wpAny_standAt (wpAny_bind (wpAny_mono (turn n s hI) (fun r s₁ h₁ => ?_) fun _ _ h' => h')))
 cases r with
 | none => exact wpAny_pure h₁
 | some v =>
   refine wpAny_bind (wpAny_mono h₁ (fun _ s₁' h₁' => ?_) fun _ _ h' => h')
   refine wpAny_bind (wpAny_mono h₁' (fun _ s₂ h₂ => wpAny_bind (wpAny_mono h₂ (fun ok s₃ h₃ => ?_) fun _ _ h' => h')) fun _ _ h' => h')
   cases ok with
   | false => exact wpAny_pure ⟨rfl,h₃⟩
   | true =>
     exact wpAny_bind (wpAny_bind (wpAny_mono h₃ (fun x s₄ h₄ => wpAny_bind (wpAny_mono h₄ (fun _ s₅ h₅ => wpAny_pure (wpAny_pure ⟨rfl,h₅⟩)) fun _ _ h' => h')) fun _ _ h' => h'))
section
variable {X : Cx}
def GV (wi : TI) (g : TG) (tt : TT) (te : TE) (vs : List Nat) : TE:=fun σ H Q => wi σ H fun J H1 => ∀ D,H1 D = none → ∃ W : Nat → Nat → Hp → Prop,(∃ m,W 0 m (upd H1 D (.lst []))) ∧ ∀ i m H,W i m H →
 (J.stop i H ∧ Q (.ref D) H) ∨ (J.go i H ∧ ∃ Nx : Hp → Prop,(∀ H',Nx H' → ∃ m',m' < m ∧ W (i + 1) m' H') ∧ ∀ x H',J.e9 i H x H' → g x (wipe σ vs) H' fun σ2 H2 => wipe σ2 vs = wipe σ vs ∧ tt σ2 H2 fun b H3 =>
  if b = true then te σ2 H3 fun y H4 => ∃ acc,H4 D = some (.lst acc) ∧ acc.length < sizeLine ∧ Nx (upd H4 D (.lst (acc ++ [y]))) else Nx H3)
theorem abl {pins : List (Addr × Obj)} {s : Shared} {σ : St} {H : Hp} {Q : VK} {elt tg iter : Expr} {ifs : List Expr} {scope : Scope} {own : List (Str × Nat)} {pos pos' : Pos} {wi : TI} {g : TG} {tt : TT} {te : TE} {use : Option (Value → Sem Unit)} {Qf : Value → Shared → Prop}
 (hc : X.calm = true) (hN : X.N.Nodup) (I : Inv X pins σ H s) (hi : PI X tg iter wi) (ok : tR X.N X.env.scope scope own)
 (hg : ∀ (s : Shared) (H : Hp) (C : Addr) (cl : List (Str × Addr)) (fp : List Addr),PG (X.dG s H scope (compEnvC scope cl C X.env) fp) tg g) (ht : ∀ (s : Shared) (H : Hp) (C : Addr) (cl : List (Str × Addr)) (fp : List Addr),sN (X.dG s H scope (compEnvC scope cl C X.env) fp) ifs tt)
 (he : ∀ (s : Shared) (H : Hp) (C : Addr) (cl : List (Str × Addr)) (fp : List Addr),PE (X.dG s H scope (compEnvC scope cl C X.env) fp) elt te) (hs : ∀ x,foldedSetIterable iter X.env x = pure x)
 (h : GV wi g tt te (own.map (·.2)) σ H Q)
 (hRR : ∀ D C s' m H',Inv X pins σ H' s' → Q (.ref D) H' → s'.heap.Ns C m → eX X pins H' C → compPost (model X.prog X.w) X.A X.xe use Qf (.ref D) C (.ok .next) s') :
 wpAny (model X.prog X.w) X.A (comprehension (.ListComp elt [⟨tg,iter,ifs,0⟩] scope pos) scope X.env pos' (newList []) false (eval iter X.env) use) Qf X.xe s:=by
 have hfree : ∀ y ∈ scope.names,y.2 = .free → ∃ c,X.env.cells.lookup y.1 = some c:=fun y hy e => by
  rcases ok.free y hy e with k | k
  ·exact I.ok.has _ (.inl k)
  ·exact I.ok.has _ (.inr k)
 refine wpAny_comprehension_free (use:=use) rfl hs (adx hfree) ok.kind (fun y hy e => by rw [ok.uniq y hy,e])
  (aJ (hi pins s σ H _ I h) fun xv s1 hx => aJ hx fun itv s2 h2 => ?_)
 obtain ⟨it,fp,tn,J,H2,e,I2,T,st2,f2,q⟩:=h2
 subst e
 refine wpAny_newObj_type (aaV ?_) (by show 0 ≤ sizeLine; decide)
 generalize hD : s2.heap.objs.size = D
 have hDn : H2 D = none:=I2.ax.fresh (Nat.le_of_eq hD)
 obtain ⟨W,⟨m0,w0⟩,turn⟩:=q D hDn
 generalize hs3 : ({ s2 with heap:=s2.heap.push { cls:=.type "list",data:=.seq ([] : List Value).toArray } } : Shared) = s3
 have I3 : Inv X pins σ (upd H2 D (.lst [])) s3:=by
  rw [← hs3]
  refine I2.laid (t':=s2.toks) (fun b o e => Heap.get?_push_of_some _ e) (Nat.le_of_eq hD) ⟨Nat.zero_le _,[],0,.nil,?_⟩
  rw [← hD]
  exact Heap.get?_push_size _ rfl
 have h3 : s3.heap = s2.heap.push { cls:=.type "list",data:=.seq ([] : List Value).toArray }:=by rw [← hs3]
 have sz : ∀ b ∈ fp,b < s2.heap.objs.size:=fun b hb => by
  obtain ⟨o,e,_⟩:=T.obj _ _ st2 b hb
  exact Heap.lt_size e
 have f3 : ∀ b ∈ fp,eX X pins (upd H2 D (.lst [])) b ∧ b < s3.heap.objs.size:=fun b hb => by
  have hlt:=sz b hb
  refine ⟨⟨?_,(f2 b hb).2⟩,by rw [h3,Heap.size_push]; exact Nat.lt_succ_of_lt hlt⟩
  rw [ag (by rw [← hD]; exact Nat.ne_of_lt hlt)]
  exact (f2 b hb).1
 have st3 : tn 0 s3.heap:=T.keep _ _ _ st2 fun b _ o e => by rw [h3]; exact Heap.get?_push_of_some _ e
 have I4:=adS I3 ok hN f3
 have pg:=hg s3 (upd H2 D (.lst [])) s3.heap.objs.size (cellsFrom (s3.heap.objs.size + 1) scope.names (cR X.env.cells scope.names [])) fp
 have pt:=ht s3 (upd H2 D (.lst [])) s3.heap.objs.size (cellsFrom (s3.heap.objs.size + 1) scope.names (cR X.env.cells scope.names [])) fp
 have pe:=he s3 (upd H2 D (.lst [])) s3.heap.objs.size (cellsFrom (s3.heap.objs.size + 1) scope.names (cR X.env.cells scope.names [])) fp
 show codeAny _ _ (.compStart (.ListComp elt [⟨tg,iter,ifs,0⟩] scope pos) 0 (.ref it) (.ref D) (compEnvC scope (cellsFrom (s3.heap.objs.size + 1) scope.names (cR X.env.cells scope.names [])) s3.heap.objs.size X.env)) (compPost (model X.prog X.w) X.A X.xe use Qf (.ref D) s3.heap.objs.size) { s3 with heap:=pushCells (s3.heap.push { cls:=.type "dict",data:=.dict #[] }) scope.names }
 have nfp : ∀ b ∈ fp,(upd H2 D (.lst [])) b = none:=fun b hb => (f3 b hb).1.1
 generalize hce : compEnvC scope (cellsFrom (s3.heap.objs.size + 1) scope.names (cR X.env.cells scope.names [])) s3.heap.objs.size X.env = ce at I4 pg pt pe ⊢
 have cL : ce.locals = s3.heap.objs.size:=by subst hce; rfl
 generalize hH3 : upd H2 D (.lst []) = H3 at I3 I4 pg pt pe w0 nfp f3
 generalize hs4 : ({ s3 with heap:=pushCells (s3.heap.push { cls:=.type "dict",data:=.dict #[] }) scope.names } : Shared) = s4 at I4 ⊢
 have st4 : tn 0 s4.heap:=T.keep _ _ _ st3 fun b _ o e => by rw [← hs4]; exact pushCells_keeps _ _ _ _ (Heap.get?_push_of_some _ e)
 have stat : ∀ {σ' : St} {H' : Hp} {s' : Shared},Inv (X.dG s3 H3 scope ce fp) [] σ' H' s' → (∀ b ∈ fp,H' b = none) → ∀ b ∈ fp,eX (X.dG s3 H3 scope ce fp) [] H' b:=fun {σ' H' s'} I' hn b hb =>
  ⟨hn b hb,(I'.ok.qz b hb).1,I'.ok.nY b hb,.inl hb,fun x c e => (I'.ok.qz b hb).2 x c e,fun p hp => absurd (show p ∈ ([] : List (Addr × Obj)) ++ [] from hp) (by simp)⟩
 have loop : codeAny (model X.prog X.w) X.A (.compLoop (.ListComp elt [⟨tg,iter,ifs,0⟩] scope pos) 0 (.ref it) (.ref D) ce) (compPost (model X.prog X.w) X.A X.xe use Qf (.ref D) s3.heap.objs.size) s4:=by
  refine adv (fun n s' => ∃ i H',Inv (X.dG s3 H3 scope ce fp) [] (wipe σ (own.map (·.2))) H' s' ∧ tn i s'.heap ∧ (∀ b ∈ fp,H' b = none) ∧ W i n H') ?_ m0 ⟨0,H3,I4,st4,nfp,w0⟩
  rintro n s5 ⟨i,H5,I5,st5,n5,w5⟩
  rcases turn i n H5 w5 with ⟨stop,qq⟩ | ⟨go,Nx,hNx,step⟩
  ·have td:=T.done (X.dG s3 H3 scope ce fp) rfl rfl rfl hc i [] s5 _ H5 (fun _ _ => False) I5 (stat I5 n5) st5 stop
   refine lT td fun r s6 ⟨hr,I6⟩ => ?_
   subst hr
   have I7 : Inv X pins σ H5 s6:=I3.adJ (ch:=fp) I6.os I6.base I6.ax I6.bare fun b hb => ⟨(f3 b hb).1.2.2.2.1,(f3 b hb).1.2.1,(f3 b hb).1.2.2.2.2.1,(f3 b hb).1.2.2.2.2.2⟩
   have nC : H5 s3.heap.objs.size = none:=by
    have z : H5 ce.locals = none:=I6.free
    rw [cL] at z
    exact z
   obtain ⟨m,hn,_⟩:=I6.loc
   have hn : s6.heap.Ns ce.locals m:=hn
   rw [cL] at hn
   exact hRR D s3.heap.objs.size s6 m H5 I7 qq hn (I3.nW (Nat.le_refl _) nC)
  ·have ti:=T.item (X.dG s3 H3 scope ce fp) rfl rfl rfl hc i [] s5 _ H5 (fun _ _ => False) I5 (stat I5 n5) st5 go
   refine lT ti fun r s6 ⟨u,hr,h6⟩ => ?_
   subst hr
   refine lT h6 fun _ s7 ⟨x,H7,I7,r7,y7,st7,n7⟩ => ?_
   have I7':=I7.pinned (stat I7 n7) (T.obj _ _ st7)
   refine lT (pg _ s7 _ H7 x u _ I7' r7 (step x H7 y7)) fun _ s8 ⟨σ8,H8,I8,hw8,q8⟩ => ?_
   refine lT (pt _ s8 σ8 H8 _ I8 q8) fun b s9 ⟨H9,I9,q9⟩ => ?_
   have fin : ∀ {s' : Shared} {H' : Hp},Inv (X.dG s3 H3 scope ce fp) ([] ++ m5 fp s7.heap) σ8 H' s' → Nx H' → ∃ m,m < n ∧ ∃ i H',Inv (X.dG s3 H3 scope ce fp) [] (wipe σ (own.map (·.2))) H' s' ∧ tn i s'.heap ∧ (∀ b ∈ fp,H' b = none) ∧ W i m H':=fun {s' H'} I' nx => by
    obtain ⟨m',hm,w'⟩:=hNx H' nx
    have pin' : ∀ b ∈ fp,∀ o,s7.heap.get? b = some o → s'.heap.get? b = some o ∧ H' b = none:=fun b hb o e =>
     let z:=I'.pin (b,o) (List.mem_append_right _ (List.mem_append_right _ (wV hb e)))
     ⟨z.1,z.2.1⟩
    have hl : (wipe σ (own.map (·.2))).length = σ8.length:=by rw [← hw8,tW]
    refine ⟨m',hm,i + 1,H',(I'.oQ (pins:=[])).weak hl (fun j v e => ?_),T.keep _ _ _ st7 fun b hb o e => (pin' b hb o e).1,fun b hb => ?_,w'⟩
    ·rw [← hw8] at e
     exact (tV e).1
    ·obtain ⟨o,e,_⟩:=T.obj _ _ st7 b hb
     exact (pin' b hb o e).2
   cases b with
   | false =>
     simp only [Bool.false_eq_true,if_false] at q9 ⊢
     exact fin I9 q9
   | true =>
     simp only [if_true] at q9 ⊢
     refine lT (pe _ s9 σ8 H9 _ I9 q9) fun z s10 ⟨yv,H10,I10,r10,acc,hD10,hz10,nx⟩ => ?_
     exact aeP (X:=X.dG s3 H3 scope ce fp) I10 hD10 hz10 r10 fun s11 I11 => fin I11 nx
 exact codeAny_compStart_list loop (T.self X.A 0 _ _ _ st4 loop)
theorem m9 {elt tg iter : Expr} {ifs : List Expr} {scope : Scope} {own : List (Str × Nat)} {pos : Pos} {wi : TI} {g : TG} {tt : TT} {te : TE} (hc : X.calm = true) (hN : X.N.Nodup) (hi : PI X tg iter wi) (ok : tR X.N X.env.scope scope own)
 (hg : ∀ (s : Shared) (H : Hp) (C : Addr) (cl : List (Str × Addr)) (fp : List Addr),PG (X.dG s H scope (compEnvC scope cl C X.env) fp) tg g) (ht : ∀ (s : Shared) (H : Hp) (C : Addr) (cl : List (Str × Addr)) (fp : List Addr),sN (X.dG s H scope (compEnvC scope cl C X.env) fp) ifs tt)
 (he : ∀ (s : Shared) (H : Hp) (C : Addr) (cl : List (Str × Addr)) (fp : List Addr),PE (X.dG s H scope (compEnvC scope cl C X.env) fp) elt te) (hs : ∀ x,foldedSetIterable iter X.env x = pure x:=by intro _; rfl) :
 PE X (.ListComp elt [⟨tg,iter,ifs,0⟩] scope pos) (GV wi g tt te (own.map (·.2))):=by
 intro pins s σ H Q I h
 rw [eval_ListComp]
 refine abl hc hN I hi ok hg ht he hs h fun D C s' m H' I' q hn f => ⟨m,hn,fun h'' sb => ?_⟩
 obtain ⟨f0,f1,f2,f3,f4,f5⟩:=f
 exact ⟨.ref D,H',I'.turned (t':=s'.toks) (fun b o hb e => (sb.2 b hb).trans e) f0 f1 f3 f4 f5,rfl,q⟩
end
theorem LA {K : PySem.W.Frag} {a : Addr} {xs : List V} {g : TG} {tt : TT} {te : TE} {vs : List Nat} {σ : St} {H1 : Hp} {D : Addr} {Qd : Hp → Prop} (Pv : Nat → Hp → Prop) (h0 : Pv 0 (upd H1 D (.lst []))) (hl : ∀ i H,i ≤ xs.length → Pv i H → az K H a xs)
 (hs : ∀ i x H,xs[i]? = some x → Pv i H → g x (wipe σ vs) H fun σ2 H2 => wipe σ2 vs = wipe σ vs ∧ tt σ2 H2 fun b H3 =>
  if b = true then te σ2 H3 fun y H4 => ∃ acc,H4 D = some (.lst acc) ∧ acc.length < sizeLine ∧ Pv (i + 1) (upd H4 D (.lst (acc ++ [y]))) else Pv (i + 1) H3) (hd : ∀ H,Pv xs.length H → Qd H) :
 ∃ W : Nat → Nat → Hp → Prop,(∃ m,W 0 m (upd H1 D (.lst []))) ∧ ∀ i m H,W i m H →
  ((kY K a).stop i H ∧ Qd H) ∨ ((kY K a).go i H ∧ ∃ Nx : Hp → Prop,(∀ H',Nx H' → ∃ m',m' < m ∧ W (i + 1) m' H') ∧ ∀ x H',(kY K a).e9 i H x H' → g x (wipe σ vs) H' fun σ2 H2 => wipe σ2 vs = wipe σ vs ∧ tt σ2 H2 fun b H3 =>
    if b = true then te σ2 H3 fun y H4 => ∃ acc,H4 D = some (.lst acc) ∧ acc.length < sizeLine ∧ Nx (upd H4 D (.lst (acc ++ [y]))) else Nx H3):=by
 refine ⟨fun i m H => m = xs.length - i ∧ i ≤ xs.length ∧ Pv i H,⟨xs.length,by simp,Nat.zero_le _,h0⟩,?_⟩
 rintro i m H ⟨rfl,hi,p⟩
 have q:=hl i H hi p
 by_cases hlt : i < xs.length
 ·refine .inr ⟨⟨xs,xs[i],q,by simp [hlt]⟩,Pv (i + 1),fun H' p' => ⟨xs.length - (i + 1),by omega,rfl,hlt,p'⟩,fun x H' y => ?_⟩
  obtain ⟨e,y⟩:=y
  subst e
  exact hs i x _ (y xs q) p
 ·have e : i = xs.length:=by omega
  subst e
  exact .inl ⟨⟨xs,q,Nat.le_refl _⟩,hd H p⟩
def QS (N : List Str) (sc scope : Scope) (own : List (Str × Nat)) : Bool :=
 (match scope.kind with | .function => true | _ => false) && (scope.names.all fun y => decide (scope.names.lookup y.1 = some y.2)) && (own.all fun p => decide (N[p.2]? = some p.1)) &&
  (scope.names.all fun y => match y.2 with
   | .free => (match sc.names.lookup y.1 with | some .cell => true | some .free => true | _ => false)
   | .local => decide (y.1 ∈ own.map (·.1)) || decide (y.1 ∉ N)
   | .cell => decide (y.1 ∈ own.map (·.1)) || decide (y.1 ∉ N)
   | _ => true)
theorem oh {N : List Str} {sc scope : Scope} {own : List (Str × Nat)} (h : QS N sc scope own = true) : tR N sc scope own:=by
 unfold QS at h
 simp only [Bool.and_eq_true,List.all_eq_true,decide_eq_true_eq] at h
 obtain ⟨⟨⟨h1,h2⟩,h3⟩,h4⟩:=h
 refine ⟨?_,h2,h3,fun y hy e => ?_,fun y hy e => ?_⟩
 ·split at h1
  ·assumption
  ·cases h1
 ·have q:=h4 y hy
  simp only [e] at q
  split at q <;> first | exact .inl (by assumption) | exact .inr (by assumption) | cases q
 ·have q:=h4 y hy
  rcases e with e | e <;> (simp only [e,Bool.or_eq_true,decide_eq_true_eq] at q; exact q)
end L2
namespace L2
open PySem PySem.Spec PyProof.Rows
section
variable {prog : Program} {w : World} {A : Around} {R : Result → Shared → Prop} {s : Shared} {elt t0 i0 t1 i1 : Expr} {ifs0 ifs1 : List Expr} {scope : Scope} {pos : Pos} {it acc : Value} {env : Env}
end
section
variable {X : Cx}
end
end L2
namespace L2
open PySem PySem.Spec PyProof.Rows
section
variable {κ : Type} [DecidableEq κ]
def bX (kvs : List (κ × V)) (k : κ) : Option V:=(kvs.find? fun kv => decide (kv.1 = k)).map (·.2)
def putK (kvs : List (κ × V)) (k : κ) (v : V) : List (κ × V) :=
 if (kvs.any fun kv => decide (kv.1 = k)) = true then kvs.map (fun kv => if kv.1 = k then (kv.1,v) else kv) else kvs ++ [(k,v)]
theorem oO {p : κ × V} {r : List (κ × V)} {k : κ} (e : p.1 = k) : bX (p :: r) k = some p.2:=by simp [bX,List.find?_cons,e]
theorem oP {p : κ × V} {r : List (κ × V)} {k : κ} (e : ¬ p.1 = k) : bX (p :: r) k = bX r k:=by simp [bX,List.find?_cons,e]
theorem tZ (k : κ) : ∀ kvs : List (κ × V),(kvs.any fun kv => decide (kv.1 = k)) = (bX kvs k).isSome
 | [] => rfl
 | p :: r => by
   rw [List.any_cons]
   by_cases e : p.1 = k
   ·simp only [oO e,decide_eq_true e,Bool.true_or,Option.isSome_some]
   ·rw [oP e,decide_eq_false e,Bool.false_or]; exact tZ k r
theorem Lw (kvs : List (κ × V)) (k : κ) (v : V) : (putK kvs k v).length ≤ kvs.length + 1:=by
 unfold putK
 split
 ·rw [List.length_map]; omega
 ·rw [List.length_append,List.length_cons,List.length_nil]; omega
theorem uz {kvs : List (κ × V)} {k : κ} (v : V) (h : bX kvs k = none) : putK kvs k v = kvs ++ [(k,v)]:=by
 unfold putK
 rw [tZ,h]
 exact if_neg (by decide)
theorem cM.mG {o : Option V} {u : Option Value} (r : cM o u) : o.isSome = u.isSome:=by
 cases o with
 | none => cases u with
   | none => rfl
   | some _ => exact (show False from r).elim
 | some _ => cases u with
   | none => exact (show False from r).elim
   | some _ => rfl
theorem cM.getD {o : Option V} {u : Option Value} {d : V} {d' : Value} (r : cM o u) (rd : RelV d d') : RelV (o.getD d) (u.getD d'):=by
 cases o with
 | none => cases u with
   | none => exact rd
   | some _ => exact (show False from r).elim
 | some _ => cases u with
   | none => exact (show False from r).elim
   | some _ => exact r
theorem KV.val {kvs : List (κ × V)} {vs : List (κ × Value)} (r : KV kvs vs) (k : κ) : cM (bX kvs k) (valueAt vs k):=by
 unfold KV at r
 induction r with
 | nil => exact True.intro
 | @cons p q ps qs h t ih =>
   obtain ⟨h1,h2⟩:=h
   by_cases e : p.1 = k
   ·have e' : q.1 = k:=h1.symm.trans e
    have b : valueAt (q :: qs) k = some q.2:=by simp [valueAt,List.find?_cons,e']
    rw [oO e,b]; exact h2
   ·have e' : ¬ q.1 = k:=fun z => e (h1.trans z)
    have b : valueAt (q :: qs) k = valueAt qs k:=by simp [valueAt,List.find?_cons,e']
    rw [oP e,b]; exact ih
theorem KV.any {kvs : List (κ × V)} {vs : List (κ × Value)} (r : KV kvs vs) (k : κ) : (kvs.any fun kv => decide (kv.1 = k)) = vs.any fun kv => decide (kv.1 = k):=by
 unfold KV at r
 induction r with
 | nil => rfl
 | cons h t ih => rw [List.any_cons,List.any_cons,ih,h.1]
theorem KV.ux {kvs : List (κ × V)} {vs : List (κ × Value)} (r : KV kvs vs) (k : κ) {y : V} {u : Value} (ry : RelV y u) :
 KV (kvs.map fun kv => if kv.1 = k then (kv.1,y) else kv) (vs.map fun kv => if kv.1 = k then (kv.1,u) else kv):=by
 unfold KV at r ⊢
 induction r with
 | nil => exact .nil
 | @cons p q ps qs h t ih =>
   rw [List.map_cons,List.map_cons]
   refine .cons ?_ ih
   obtain ⟨h1,h2⟩:=h
   by_cases e : p.1 = k
   ·rw [if_pos e,if_pos (h1.symm.trans e)]; exact ⟨h1,ry⟩
   ·rw [if_neg e,if_neg (fun z => e (h1.trans z))]; exact ⟨h1,h2⟩
theorem KV.put {kvs : List (κ × V)} {vs : List (κ × Value)} (r : KV kvs vs) (k : κ) {y : V} {u : Value} (ry : RelV y u) : KV (putK kvs k y) (stored vs k u):=by
 unfold putK stored
 rw [r.any k]
 by_cases e : (vs.any fun kv => decide (kv.1 = k)) = true
 ·rw [if_pos e,if_pos e]; exact r.ux k ry
 ·rw [if_neg e,if_neg e]; exact Paired.snoc r ⟨rfl,ry⟩
theorem KV.length {kvs : List (κ × V)} {vs : List (κ × Value)} (r : KV kvs vs) : kvs.length = vs.length:=Paired.length r
end
theorem mE {P : Program} {w : World} {k : Key} {u : Value} (r : RelV (kV k) u) : (dN P w).is k u = true:=by
 cases k with
 | inl i => obtain ⟨t,e⟩:=(show ∃ t,u = Value.int i t from r); subst e; exact aa4 P w i t
 | inr x => obtain ⟨t,e⟩:=(show ∃ t,u = Value.str x t from r); subst e; exact aa3 P w x t
theorem MO {P : Program} {w : World} : ∀ {ks : List Key} {us : List Value},Vals (ks.map kV) us → ItemsAre (dN P w) ks us
 | [],_,r => by rw [List.map_nil] at r; cases r; exact .nil
 | k :: ks,_,r => by
   rw [List.map_cons] at r
   cases r with
   | cons h t => exact .cons (mE h) (MO t)
abbrev KT (H : Hp) : List (List Key × V) → List (List Key × Addr × Value) → Prop:=Paired fun p q => p.1 = q.1 ∧ H q.2.1 = some (.tup (p.1.map kV)) ∧ RelV p.2 q.2.2
theorem KT.val {H : Hp} {kvs : List (List Key × V)} {xs : List (List Key × Addr × Value)} (r : KT H kvs xs) (k : List Key) : cM (bX kvs k) ((atKey xs k).map (·.2)):=by
 induction r with
 | nil => exact True.intro
 | @cons p q ps qs h t ih =>
   obtain ⟨h1,_,h2⟩:=h
   by_cases e : p.1 = k
   ·have e' : q.1 = k:=h1.symm.trans e
    have b : atKey (q :: qs) k = some q.2:=by simp [atKey,List.find?_cons,e']
    rw [oO e,b]; exact h2
   ·have e' : ¬ q.1 = k:=fun z => e (h1.trans z)
    have b : atKey (q :: qs) k = atKey qs k:=by simp [atKey,List.find?_cons,e']
    rw [oP e,b]; exact ih
theorem KT.ux {H : Hp} {kvs : List (List Key × V)} {xs : List (List Key × Addr × Value)} (r : KT H kvs xs) (k : List Key) {y : V} {u : Value} (ry : RelV y u) :
 KT H (kvs.map fun kv => if kv.1 = k then (kv.1,y) else kv) (xs.map (putAt k u)):=by
 induction r with
 | nil => exact .nil
 | @cons p q ps qs h t ih =>
   rw [List.map_cons,List.map_cons]
   refine .cons ?_ ih
   obtain ⟨h1,h2,h3⟩:=h
   unfold putAt
   by_cases e : p.1 = k
   ·rw [if_pos e,if_pos (h1.symm.trans e)]; exact ⟨h1,h2,ry⟩
   ·rw [if_neg e,if_neg (fun z => e (h1.trans z))]; exact ⟨h1,h2,h3⟩
theorem KT.put {H : Hp} {kvs : List (List Key × V)} {xs : List (List Key × Addr × Value)} (r : KT H kvs xs) (k : List Key) {b : Addr} {y : V} {u : Value} (hb : H b = some (.tup (k.map kV))) (ry : RelV y u) :
 KT H (putK kvs k y) (storedH xs k b u):=by
 have e : (kvs.any fun kv => decide (kv.1 = k)) = (atKey xs k).isSome:=by
  rw [tZ,(r.val k).mG,Option.isSome_map]
 unfold putK storedH
 rw [e]
 by_cases q : (atKey xs k).isSome = true
 ·rw [if_pos q,if_pos q]; exact r.ux k ry
 ·rw [if_neg q,if_neg q]; exact Paired.snoc r ⟨rfl,hb,ry⟩
theorem KT.keeps {H H' : Hp} {kvs : List (List Key × V)} {xs : List (List Key × Addr × Value)} (r : KT H kvs xs) (ht : ∀ b ys,H b = some (.tup ys) → H' b = some (.tup ys)) : KT H' kvs xs :=
 Paired.wX r fun _ _ z => ⟨z.1,ht _ _ z.2.1,z.2.2⟩
section
variable {P : Program} {w : World} {H : Hp} {h : Heap} {a : Addr}
theorem uy {u : HO} (ok : bT P w H h) (e : Rd H a u) : bZ P w H h a u:=e.ok ok
theorem kQ {kvs : List (Key × V)} (ok : bT P w H h) (e : Rd H a (.dK kvs)) : kvs.length ≤ sizeLine ∧ (a == sysModules) = false ∧ ∃ vs,KV kvs vs ∧ h.DictOf (dN P w) a vs :=
 show bZ P w H h a (.dK kvs) from uy ok e
theorem adh {kvs : List (Key × V)} (ok : bT P w H h) (e : H a = some (.dK kvs)) : kvs.length ≤ sizeLine ∧ (a == sysModules) = false ∧ ∃ vs,KV kvs vs ∧ h.DictOf (dN P w) a vs:=kQ ok (.inl e)
theorem mB {ks : List Key} (ok : bT P w H h) (e : H a = some (.tup (ks.map kV))) : (tupleKind (dN P w)).is h ks a:=by
 obtain ⟨_,its,r,o,h1,h2,n,h3⟩:=(show bZ P w H h a (.tup (ks.map kV)) from ok a _ e)
 exact ⟨o,its.toArray,n,h1,h2,h3,by simpa using MO r⟩
theorem lG {kvs : List (List Key × V)} (ok : bT P w H h) (e : Rd H a (.dT kvs)) : kvs.length ≤ sizeLine ∧ (a == sysModules) = false ∧
 ∃ xs,KT H kvs xs ∧ h.DictOfH (tupleKind (dN P w)) a xs:=by
 obtain ⟨z,y,xs,r,o,es,ep,h1,h2,h3,h4,h5⟩:=(show bZ P w H h a (.dT kvs) from uy ok e)
 refine ⟨z,y,xs,r,o,es,ep,h1,h2,h3,h4,fun x hx => ?_,h5⟩
 have all : ∀ {l : List (List Key × V)} {m : List (List Key × Addr × Value)},KT H l m → ∀ x ∈ m,(tupleKind (dN P w)).is h x.1 x.2.1:=by
  intro l m q
  induction q with
  | nil => intro x hx; exact nomatch hx
  | @cons p q ps qs hq t ih =>
    intro x hx
    rcases List.mem_cons.mp hx with e | hx
    ·subst e
     exact mB ok (by rw [← hq.1]; exact hq.2.1)
    ·exact ih x hx
 exact all r x hx
theorem adf {kvs : List (List Key × V)} (ok : bT P w H h) (e : H a = some (.dT kvs)) : kvs.length ≤ sizeLine ∧ (a == sysModules) = false ∧
 ∃ xs,KT H kvs xs ∧ h.DictOfH (tupleKind (dN P w)) a xs:=lG ok (.inl e)
end
def bL (H : Hp) (a : Addr) (y : V) (r : Option V) : Prop :=
 (∃ kvs k,Rd H a (.dK kvs) ∧ y = kV k ∧ r = bX kvs k) ∨ ∃ kvs k b,Rd H a (.dT kvs) ∧ y = .ref b ∧ H b = some (.tup (k.map kV)) ∧ r = bX kvs k
def kq (H : Hp) (a : Addr) (y v : V) (H' : Hp) : Prop :=
 (∃ kvs k,H a = some (.dK kvs) ∧ y = kV k ∧ kvs.length < sizeLine ∧ H' = upd H a (.dK (putK kvs k v))) ∨
 ∃ kvs k b,H a = some (.dT kvs) ∧ y = .ref b ∧ H b = some (.tup (k.map kV)) ∧ kvs.length < sizeLine ∧ H' = upd H a (.dT (putK kvs k v))
theorem bL.k {H : Hp} {a : Addr} {kvs : List (Key × V)} {k : Key} (e : H a = some (.dK kvs)) : bL H a (kV k) (bX kvs k):=.inl ⟨kvs,k,.inl e,rfl,rfl⟩
theorem bL.t {H : Hp} {a b : Addr} {kvs : List (List Key × V)} {k : List Key} (e : H a = some (.dT kvs)) (eb : H b = some (.tup (k.map kV))) : bL H a (.ref b) (bX kvs k):=.inr ⟨kvs,k,b,.inl e,rfl,eb,rfl⟩
theorem kq.k {H : Hp} {a : Addr} {kvs : List (Key × V)} {k : Key} {v : V} (e : H a = some (.dK kvs)) (hl : kvs.length < sizeLine) : kq H a (kV k) v (upd H a (.dK (putK kvs k v))):=.inl ⟨kvs,k,e,rfl,hl,rfl⟩
theorem kq.t {H : Hp} {a b : Addr} {kvs : List (List Key × V)} {k : List Key} {v : V} (e : H a = some (.dT kvs)) (eb : H b = some (.tup (k.map kV))) (hl : kvs.length < sizeLine) :
 kq H a (.ref b) v (upd H a (.dT (putK kvs k v))):=.inr ⟨kvs,k,b,e,rfl,eb,hl,rfl⟩
section
variable {X : Cx} {pins : List (Addr × Obj)} {σ : St} {H : Hp} {s : Shared} {a : Addr} {y v : V} {u r : Value} {o : Option V} {A : Around} {E : Value → Shared → Prop}
theorem Inv.big (I : Inv X pins σ H s) : sysModules < s.heap.objs.size:=by
 have h : mainGlobals < s.heap.objs.size:=(I.mod.glob.keeps I.bk).lt
 exact Nat.lt_trans (by decide) h
theorem adq {Q : Value → Shared → Prop} (hu : A.units + 1 < cLine) (I : Inv X pins σ H s) (g : bL H a y (some v)) (ry : RelV y u) (h : ∀ w' s',Inv X pins σ H s' → RelV v w' → Q w' s') :
 wpAny (model X.prog X.w) A (getItem (.ref a) u) Q E s:=by
 rcases g with ⟨kvs,k,e,ey,l⟩ | ⟨kvs,k,b,e,ey,eb,l⟩
 ·subst ey
  obtain ⟨z,hd,vs,rel,dd⟩:=kQ I.ax e
  obtain ⟨w',hw,rw'⟩:=cM.some_of (v:=v) (o:=valueAt vs k) (by rw [l]; exact rel.val k)
  exact wpAny_getItem_of (mE ry) dd.mapOf hw (h w' _ (I.tok _) rw')
 ·subst ey
  cases (show u = Value.ref b from ry)
  obtain ⟨z,hd,xs,rel,dd⟩:=lG I.ax e
  obtain ⟨w',hw,rw'⟩:=cM.some_of (v:=v) (o:=(atKey xs k).map (·.2)) (by rw [l]; exact rel.val k)
  obtain ⟨p,hp,hp2⟩:=Option.map_eq_some_iff.mp hw
  refine wpAny_getItem_heap (tupleKind_room_in1 hu) (mB I.ax eb) dd hp ?_
  rw [hp2]
  exact h w' _ (I.tok _) rw'
theorem adp {Q : Value → Shared → Prop} (hu : A.units + 1 < cLine) (I : Inv X pins σ H s) (g : bL H a y o) (ry : RelV y u) (h : ∀ s',Inv X pins σ H s' → Q (.bool o.isSome) s') :
 wpAny (model X.prog X.w) A (compareOp .In u (.ref a)) Q E s:=by
 rcases g with ⟨kvs,k,e,ey,l⟩ | ⟨kvs,k,b,e,ey,eb,l⟩
 ·subst ey
  obtain ⟨z,hd,vs,rel,dd⟩:=kQ I.ax e
  refine wpAny_in_of (mE ry) hd dd.mapOf ?_
  rw [← (rel.val k).mG,← l]
  exact h _ (I.tok _)
 ·subst ey
  cases (show u = Value.ref b from ry)
  obtain ⟨z,hd,xs,rel,dd⟩:=lG I.ax e
  refine wpAny_in_heap (tupleKind_room_in1 hu) (mB I.ax eb) hd dd ?_
  have q:=(rel.val k).mG
  rw [Option.isSome_map] at q
  rw [← q,← l]
  exact h _ (I.tok _)
theorem adn {Q : Value → Shared → Prop} (hu : A.units + 1 < cLine) (I : Inv X pins σ H s) (g : bL H a y o) (ry : RelV y u) (h : ∀ s',Inv X pins σ H s' → Q (.bool (!o.isSome)) s') :
 wpAny (model X.prog X.w) A (compareOp .NotIn u (.ref a)) Q E s:=by
 rcases g with ⟨kvs,k,e,ey,l⟩ | ⟨kvs,k,b,e,ey,eb,l⟩
 ·subst ey
  obtain ⟨z,hd,vs,rel,dd⟩:=kQ I.ax e
  refine wpAny_notIn_of (mE ry) hd dd.mapOf ?_
  rw [← (rel.val k).mG,← l]
  exact h _ (I.tok _)
 ·subst ey
  cases (show u = Value.ref b from ry)
  obtain ⟨z,hd,xs,rel,dd⟩:=lG I.ax e
  refine wpAny_notIn_heap (tupleKind_room_in1 hu) (mB I.ax eb) hd dd ?_
  have q:=(rel.val k).mG
  rw [Option.isSome_map] at q
  rw [← q,← l]
  exact h _ (I.tok _)
theorem O3 {h' : Heap} {t' : Nat} {ob : HO} (I : Inv X pins σ H s) (mu : kh (H a)) (hs : Heap.SameBut a s.heap h') (he : ∃ q,h'.get? a = some q) (new : bZ X.prog X.w (upd H a ob) h' a ob) :
 Inv X pins σ (upd H a ob) { s with heap:=h',toks:=t' } :=
 I.write (x:=a) (e:=a) mu (.inl rfl) (fun b q hb z => (hs.2 b hb).trans z) he new
theorem adi {P : Program} {w : World} {H' : Hp} {h' : Heap} {kvs : List (Key × V)} {vs : List (Key × Value)} (z : kvs.length ≤ sizeLine) (hd : (a == sysModules) = false) (rel : KV kvs vs) (dd : h'.DictOf (dN P w) a vs) :
 bZ P w H' h' a (.dK kvs):=⟨z,hd,vs,rel,dd⟩
theorem adm {H' : Hp} {Q : Unit → Shared → Prop} (hu : A.units + 1 < cLine) (I : Inv X pins σ H s) (g : kq H a y v H') (ry : RelV y u) (rv : RelV v r) (h : ∀ s',Inv X pins σ H' s' → Q () s') :
 wpAny (model X.prog X.w) A (setItem (.ref a) u r) Q E s:=by
 rcases g with ⟨kvs,k,e,ey,l,eH⟩ | ⟨kvs,k,b,e,ey,eb,l,eH⟩
 ·subst ey eH
  obtain ⟨z,hd,vs,rel,dd⟩:=adh I.ax e
  have hz : vs.length ≤ sizeLine:=by rw [← rel.length]; exact z
  have hl : (putK kvs k v).length ≤ sizeLine:=by have:=Lw kvs k v; omega
  refine wpAny_setItem_pairs (hsz:=hz) (mE ry) dd fun h' dd' hs => h _ ?_
  have he : ∃ q,h'.get? a = some q:=let ⟨q,_,_,hq,_⟩:=dd'; ⟨q,hq⟩
  exact O3 I (by rw [e]; exact True.intro) hs he (adi hl hd (rel.put k rv) dd')
 ·subst ey eH
  cases (show u = Value.ref b from ry)
  obtain ⟨z,hd,xs,rel,dd⟩:=adf I.ax e
  have hz : xs.length ≤ sizeLine:=by rw [← Paired.length rel]; exact z
  have hl : (putK kvs k v).length ≤ sizeLine:=by have:=Lw kvs k v; omega
  refine wpAny_setItem_heap (hsz:=hz) (tupleKind_room_in1 hu) (mB I.ax eb) dd fun h' dd' hs => h _ ?_
  obtain ⟨q,es,ep,hq,h2,h3,h4,_,h5⟩:=dd'
  refine O3 I (by rw [e]; exact True.intro) hs ⟨q,hq⟩ ⟨hl,hd,_,(rel.put k eb rv).keeps fun c ys ec => ?_,q,es,ep,hq,h2,h3,h4,h5⟩
  rw [ag (K1 ec e (fun z => nomatch z))]
  exact ec
end
section
variable {X : Cx} {pins : List (Addr × Obj)} {σ : St} {H : Hp} {s : Shared} {a : Addr} {kvs : List (Key × V)} {k : Key} {u : Value} {A : Around} {E : Value → Shared → Prop}
theorem ado {Q : Value → Shared → Prop} (I : Inv X pins σ H s) (e : Rd H a (.dK kvs)) (h : ∀ t s',Inv X pins σ H s' → Q (.int kvs.length t) s') : wpAny (model X.prog X.w) A (call (.builtin "len") [.ref a]) Q E s:=by
 obtain ⟨z,hd,vs,rel,dd⟩:=kQ I.ax e
 refine call_len_dict hd dd (by rw [← rel.length]; rw [sizeLine_eq] at z; omega) ?_
 rw [← rel.length]
 exact h _ _ (I.tok _)
end
def EW (i : Expr) : Prop:=∀ ov iv,subscripted i false ov iv = operate [ov,iv] (getItem ov iv)
theorem GX {prog : Program} {w : World} {A : Around} {E : Value → Shared → Prop} {s : Shared} {env : Env} {value slice : Expr} {pos : Pos} {T id : String} {Q : Value → Shared → Prop}
 (hl : typeLookup (.type T) "__getitem__" = pure (some (.builtin id))) (hs : EW slice)
 (h : wpAny (model prog w) A (eval value env) (fun o s₁ => wpAny (model prog w) A (eval slice env) (fun i s₂ => s₂.TypeIs o T ∧ wpAny (model prog w) A (getItem o i) Q E s₂) E s₁) E s) :
 wpAny (model prog w) A (eval (.Subscript value slice pos) env) Q E s:=by
 refine Subscript_ (wpAny_mono h (fun o s₁ h₁ => wpAny_mono h₁ (fun i s₂ h₂ => ?_) fun _ _ x => x) fun _ _ x => x)
 obtain ⟨hT,h₂⟩:=h₂
 unfold subscriptTail
 refine wpAny_bind ?_
 rw [getitemInPython_of_ne hT.not_modules]
 refine wpAny_bind (wpAny_specialOf hT hl ?_)
 have fin : wpAny (model prog w) A (subscripted slice false o i) (fun r s₃ => wpAny (model prog w) A (letTemporaryGo value o r >>= fun _ => pure r) Q E s₃) E s₂:=by
  rw [hs o i]
  exact wpAny_operating (wpAny_mono h₂ (fun r s₃ h₃ => wpAny_bind (wpAny_letTemporaryGo (wpAny_pure h₃))) fun _ _ x => x)
 first
  | exact wpAny_pure (wpAny_bind fin)
  | exact wpAny_bind (wpAny_pure (wpAny_bind fin))
  | exact wpAny_bind fin
theorem adk {X : Cx} {pins : List (Addr × Obj)} {σ : St} {H : Hp} {s : Shared} {a : Addr} {y : V} {o : Option V} (I : Inv X pins σ H s) (g : bL H a y o) : s.TypeIs (.ref a) "dict":=by
 rcases g with ⟨kvs,k,e,_,_⟩ | ⟨kvs,k,b,e,_,_,_⟩
 ·obtain ⟨_,_,vs,_,dd⟩:=kQ I.ax e
  exact dd.typeIs
 ·obtain ⟨_,_,xs,_,dd⟩:=lG I.ax e
  exact dd.typeIs
def T4 (td ty : TE) : TE:=fun σ H Q => td σ H fun x H1 => ty σ H1 fun y H2 => ∃ a v,x = .ref a ∧ bL H2 a y (some v) ∧ Q v H2
def T2 (ty td : TE) : TE:=fun σ H Q => ty σ H fun y H1 => td σ H1 fun x H2 => ∃ a o,x = .ref a ∧ bL H2 a y o ∧ Q (.bl o.isSome) H2
def TY (ty td : TE) : TE:=fun σ H Q => ty σ H fun y H1 => td σ H1 fun x H2 => ∃ a o,x = .ref a ∧ bL H2 a y o ∧ Q (.bl (!o.isSome)) H2
def WV (td ty tv : TE) : TS:=fun D σ H => tv σ H fun v H1 => td σ H1 fun x H2 => ty σ H2 fun y H3 => ∃ a H4,x = .ref a ∧ kq H3 a y v H4 ∧ D.nx σ H4
section
variable {X : Cx} {o i e value : Expr} {pos pos' tpos : Pos} {td ty tv : TE}
theorem kD (hu : X.A.units + 1 < cLine) (ho : PE X o td) (hi : PE X i ty) (hs : EW i) : PE X (.Subscript o i pos) (T4 td ty):=by
 intro pins s σ H Q I h
 refine GX PySem.F.slot_dict_getitem.lookup hs (aJ (ho pins s σ H _ I h) fun u s1 ⟨x,H1,I1,rx,q1⟩ => aJ (hi pins s1 σ H1 _ I1 q1) fun iv s2 ⟨y,H2,I2,ry,a,v,ex,g,q2⟩ => ?_)
 subst ex
 obtain rfl : u = Value.ref a:=rx
 exact ⟨adk I2 g,adq hu I2 g ry fun w' s3 I3 rw' => ⟨v,H2,I3,rw',q2⟩⟩
theorem Km (hu : X.A.units + 1 < cLine) (hi : PE X i ty) (ho : PE X o td) : PC X .In i o (T2 ty td):=by
 intro pins s σ H Q I h
 refine aJ (hi pins s σ H _ I h) fun iv s1 ⟨y,H1,I1,ry,q1⟩ => aJ (ho pins s1 σ H1 _ I1 q1) fun u s2 ⟨x,H2,I2,rx,a,ov,ex,g,q2⟩ => ?_
 subst ex
 obtain rfl : u = Value.ref a:=rx
 exact adp hu I2 g ry fun s3 I3 => ⟨.bl ov.isSome,H2,I3,rfl,q2⟩
theorem Kk (hu : X.A.units + 1 < cLine) (hi : PE X i ty) (ho : PE X o td) : PC X .NotIn i o (TY ty td):=by
 intro pins s σ H Q I h
 refine aJ (hi pins s σ H _ I h) fun iv s1 ⟨y,H1,I1,ry,q1⟩ => aJ (ho pins s1 σ H1 _ I1 q1) fun u s2 ⟨x,H2,I2,rx,a,ov,ex,g,q2⟩ => ?_
 subst ex
 obtain rfl : u = Value.ref a:=rx
 exact adn hu I2 g ry fun s3 I3 => ⟨.bl (!ov.isSome),H2,I3,rfl,q2⟩
theorem uB (hu : X.A.units + 1 < cLine) (ho : PE X o td) (hi : PE X i ty) (hv : PE X value tv) (hs : swapsWith value (some (.Subscript o i pos')) pos.line X.env = pure false) :
 PS X (.Assign [.Subscript o i pos'] value pos) (WV td ty tv):=by
 intro pins s σ H D I h
 refine wpAny_Assign_Subscript (aJ (hv pins s σ H _ I h) fun r s1 ⟨v,H1,I1,rv,q1⟩ => aJ (ho pins s1 σ H1 _ I1 q1) fun u s2 ⟨x,H2,I2,rx,q2⟩ => aJ (hi pins s2 σ H2 _ I2 q2) fun iv s3 ⟨y,H3,I3,ry,a,H4,ex,g,q3⟩ => ?_) hs
 subst ex
 obtain rfl : u = Value.ref a:=rx
 exact adm hu I3 g ry rv fun s4 I4 => ⟨σ,H4,I4,q3⟩
end
theorem adj {P : Program} {w : World} {H : Hp} (h : Heap) (hb : sysModules < h.objs.size) : bZ P w H (h.push { cls:=.type "dict",data:=.dict #[] }) h.objs.size (.dK []) :=
 ⟨Nat.zero_le _,beq_eq_false_iff_ne.mpr (Ne.symm (Nat.ne_of_lt hb)),[],.nil,Heap.DictOf.new h⟩
theorem adg {P : Program} {w : World} {H : Hp} (h : Heap) (hb : sysModules < h.objs.size) : bZ P w H (h.push { cls:=.type "dict",data:=.dict #[] }) h.objs.size (.dT []) :=
 ⟨Nat.zero_le _,beq_eq_false_iff_ne.mpr (Ne.symm (Nat.ne_of_lt hb)),[],.nil,_,#[],0,Heap.get?_push_size _ rfl,⟨rfl,rfl,rfl⟩,rfl,rfl,List.nodup_nil⟩
def T1 : TE:=fun _ H Q => ∀ p,H p = none → Q (.ref p) (upd H p (.dK []))
def TZ : TE:=fun _ H Q => ∀ p,H p = none → Q (.ref p) (upd H p (.dT []))
section
variable {X : Cx} {pos : Pos}
theorem XJ : PE X (.Dict [] [] pos) T1:=fun pins s σ H Q I h =>
 wpAny_Dict_empty ⟨.ref s.heap.objs.size,_,I.laid (a:=s.heap.objs.size) (o:=.dK []) (t':=s.toks) (fun _ _ q => Heap.get?_push_of_some _ q) (Nat.le_refl _) (adj s.heap I.big),rfl,h _ (I.ax.fresh (Nat.le_refl _))⟩
theorem Ki : PE X (.Dict [] [] pos) TZ:=fun pins s σ H Q I h =>
 wpAny_Dict_empty ⟨.ref s.heap.objs.size,_,I.laid (a:=s.heap.objs.size) (o:=.dT []) (t':=s.toks) (fun _ _ q => Heap.get?_push_of_some _ q) (Nat.le_refl _) (adg s.heap I.big),rfl,h _ (I.ax.fresh (Nat.le_refl _))⟩
end
structure M1 (X : Cx) (o : Expr) (m : Str) (apos : Pos) (e : Expr) (cpos : Pos) : Prop where
 base : attributeBase o m X.env (eval o X.env) = eval o X.env
 few : ((backTo cpos (starEach [e] X.env)).all (fun x => !x.1) && (backToKw cpos (keywordEach [] X.env)).all (fun x => x.1.isSome)
  && decide (([e] : List Expr).length + ([] : List Keyword).length + (if ([] : List Keyword).isEmpty then 0 else 1) < 30)) = true
 line : (apos.endLine == cpos.line) = true
 trees : backTo cpos (starEach [e] X.env) = [(false,eval e X.env)]
def SD (H : Hp) (a : Addr) : Prop:=(∃ kvs,Rd H a (.dK kvs)) ∨ ∃ kvs,Rd H a (.dT kvs)
theorem abA {X : Cx} {pins : List (Addr × Obj)} {σ : St} {H : Hp} {s : Shared} {a : Addr} (I : Inv X pins σ H s) (d : SD H a) :
 s.TypeIs (.ref a) "dict" ∧ (∀ b,Value.ref a = .ref b → ∃ ob,s.heap.get? b = some ob ∧ ob.dict = none) ∧ (a == sysModules) = false:=by
 rcases d with ⟨kvs,e⟩ | ⟨kvs,e⟩
 ·obtain ⟨_,hd,vs,_,dd⟩:=kQ I.ax e
  refine ⟨dd.typeIs,fun b q => ?_,hd⟩
  cases q
  obtain ⟨ob,_,_,h1,h2,_⟩:=dd
  exact ⟨ob,h1,h2.2.1⟩
 ·obtain ⟨_,hd,xs,_,dd⟩:=lG I.ax e
  refine ⟨dd.typeIs,fun b q => ?_,hd⟩
  cases q
  obtain ⟨ob,_,_,h1,h2,_⟩:=dd
  exact ⟨ob,h1,h2.2.1⟩
section
variable {X : Cx} {pins : List (Addr × Obj)} {σ : St} {H : Hp} {s : Shared} {a : Addr} {y d : V} {u r : Value} {o : Option V} {A : Around} {E : Value → Shared → Prop}
theorem ads {Q : Value → Shared → Prop} (hu : A.units + 1 < cLine) (I : Inv X pins σ H s) (g : bL H a y o) (ry : RelV y u) (h : ∀ w' s',Inv X pins σ H s' → RelV (o.getD .aC) w' → Q w' s') :
 wpAny (model X.prog X.w) A (call (.builtin "dict.get") [.ref a,u]) Q E s:=by
 rcases g with ⟨kvs,k,e,ey,l⟩ | ⟨kvs,k,b,e,ey,eb,l⟩
 ·subst ey
  obtain ⟨z,hd,vs,rel,dd⟩:=kQ I.ax e
  refine call_meetsIn PySem.F.slot_dict_get dd.typeIs PySem.F.entry_dict_get (PySem.F.args_dict_get_2 _ _) (meets_dict_get (dN X.prog X.w) a (mE ry) hd) ⟨_,dd.mapOf,h _ _ (I.tok _) ?_⟩
  rw [l]
  exact (rel.val k).getD rfl
 ·subst ey
  cases (show u = Value.ref b from ry)
  obtain ⟨z,hd,xs,rel,dd⟩:=lG I.ax e
  refine call_meetsIn PySem.F.slot_dict_get dd.typeIs PySem.F.entry_dict_get (PySem.F.args_dict_get_2 _ _) (meetsH_dict_get (tupleKind (dN X.prog X.w)) a b hd) ⟨tupleKind_room_in1 hu,k,xs,mB I.ax eb,dd,h _ _ (I.tok _) ?_⟩
  rw [l]
  exact (rel.val k).getD rfl
end
def T3 (td ty : TE) : TE:=fun σ H Q => td σ H fun x H1 => ∃ a,x = .ref a ∧ SD H1 a ∧ ty σ H1 fun y H2 => ∃ o,bL H2 a y o ∧ Q (o.getD .aC) H2
section
variable {X : Cx} {o e f : Expr} {apos cpos : Pos} {td ty tx : TE}
theorem k9 (hu : X.A.units + 1 < cLine) (ho : PE X o td) (he : PE X e ty) (m : M1 X o "get" apos e cpos) : PE X (.Call (.Attribute o "get" apos) [e] [] cpos) (T3 td ty):=by
 intro pins s σ H Q I h
 refine wpAny_Call_method m.base m.few m.line PySem.F.plainAttrs_dict PySem.F.slot_dict_get PySem.F.type_dict_get (aJ (ho pins s σ H _ I h) fun u s1 ⟨x,H1,I1,rx,a,ex,d,q1⟩ => ?_)
 subst ex
 obtain rfl : u = Value.ref a:=rx
 obtain ⟨t1,t2,_⟩:=abA I1 d
 refine ⟨t1,t2,?_⟩
 rw [m.trees]
 refine Calls.callWith_builtin rfl (Calls.evalArgs_plain (Calls.spliced_cons (aJ (he pins s1 σ H1 _ I1 q1) fun iv s2 ⟨y,H2,I2,ry,ov,g,q2⟩ => Calls.spliced_nil ?_)))
 exact ads hu I2 g ry fun w' s3 I3 rw' => ⟨_,H2,I3,rw',q2⟩
end
section
variable {X : Cx} {pins : List (Addr × Obj)} {σ : St} {H : Hp} {s : Shared} {a : Addr} {kvs : List (Key × V)} {A : Around} {E : Value → Shared → Prop}
end
section
variable {X : Cx} {pins : List (Addr × Obj)} {σ : St} {H : Hp} {s : Shared} {a : Addr} {y : V} {u : Value} {A : Around} {E : Value → Shared → Prop}
end
end L2
namespace L2
open PySem PySem.Spec PyProof.Rows
section
variable {prog : Program} {w : World} {A : Around} {E : Value → Shared → Prop}
end
section
variable {X : Cx}
end
end L2
namespace L2
open PySem PySem.Spec PyProof.Rows
theorem adR : bootBuiltins "reversed" = some (.type "reversed"):=by decide +kernel
section
variable {X : Cx} {pins : List (Addr × Obj)} {σ : St} {H : Hp} {s : Shared} {h' : Heap}
theorem Inv.S4 {t' : Nat} {ch : List Addr} (I : Inv X pins σ H s) (k : ∀ b o,b ∉ ch → s.heap.get? b = some o → h'.get? b = some o) (hf : ∀ b ∈ ch,eX X pins H b) : Inv X pins σ H { s with heap:=h',toks:=t' }:=by
 have nit : ∀ b u,H b = some u → b ∉ ch:=fun b u e z => by
  have q:=(hf b z).1
  rw [q] at e; cases e
 refine I.step (g':=s.gens) (d':=s.drawn) (ch:=ch) (fun b hb => ⟨(hf b hb).2.2.2.1,(hf b hb).2.1,(hf b hb).2.2.2.2.1,(hf b hb).2.2.2.2.2⟩) (fun b o _ _ hc e _ => k b o hc e) (fun b o _ _ hc e _ => ⟨o.slots,k b o hc e⟩)
  (fun _ _ _ _ n => n) (fun b o hc e => ⟨o,k b o hc e⟩) (fun _ _ e => e) (fun _ _ _ e => e) (fun b ps e => ⟨#[],by rw [e]; simp⟩) (fun m hm => ?_) (fun b u e => ?_) I.bare
 ·obtain ⟨o,es,ep,ho,r⟩:=hm
  exact ⟨o,es,ep,k _ o (fun z => (hf _ z).2.1 rfl) ho,r⟩
 ·refine (I.ax b u e).gc (fun c v hc q => k c v ?_ q) (fun _ q => q) fun _ _ q => q
  rcases hc with z | z
  ·rw [z]; exact nit b u e
  ·exact nit c _ z
theorem Inv.t6 {t' : Nat} {ch : List Addr} {T : Addr} {ob : HO} (I : Inv X pins σ H s) (k : ∀ b o,b ∉ ch → s.heap.get? b = some o → h'.get? b = some o) (hf : ∀ b ∈ ch,eX X pins H b) (hT : s.heap.objs.size ≤ T)
 (new : bZ X.prog X.w (upd H T ob) h' T ob) : Inv X pins σ (upd H T ob) { s with heap:=h',toks:=t' }:=by
 have hn : H T = none:=I.ax.fresh hT
 have nit : ∀ b u,H b = some u → b ∉ ch:=fun b u e z => by
  have q:=(hf b z).1
  rw [q] at e; cases e
 refine I.step (g':=s.gens) (d':=s.drawn) (ch:=ch) (fun b hb => ⟨(hf b hb).2.2.2.1,(hf b hb).2.1,(hf b hb).2.2.2.2.1,(hf b hb).2.2.2.2.2⟩) (fun b o _ _ hc e _ => k b o hc e) (fun b o _ _ hc e _ => ⟨o.slots,k b o hc e⟩)
  (fun b o _ e n => ?_) (fun b o hc e => ⟨o,k b o hc e⟩) (fun b xs e => ?_) (fun b o u e => ?_) (fun b ps e => ⟨#[],?_⟩) (fun m hm => ?_) (fun b u e => ?_) I.bare
 ·rw [ag (Nat.ne_of_lt (Nat.lt_of_lt_of_le (Heap.lt_size e) hT))]; exact n
 ·rw [ag (bj e hn)]; exact e
 ·rw [ag (bj e hn)]; exact e
 ·rw [ag (bj e hn),e]; simp
 ·obtain ⟨o,es,ep,ho,r⟩:=hm
  exact ⟨o,es,ep,k _ o (fun z => (hf _ z).2.1 rfl) ho,r⟩
 ·by_cases hb : b = T
  ·subst hb
   rw [af] at e
   cases e
   exact new
  ·rw [ag hb] at e
   refine (I.ax b u e).gc (fun c v hc q => k c v ?_ q) (fun c q => by rw [ag (bj q hn)]; exact q) fun c xs q => by rw [ag (bj q hn)]; exact q
   rcases hc with z | z
   ·rw [z]; exact nit b u e
   ·exact nit c _ z
theorem Inv.lock {d : Addr} {u : HO} (I : Inv X pins σ H s) (h : H d = some u) (mu : kh (some u)) : ∃ od,Inv X pins σ (upd H d (.a7 od u)) s:=by
 have x:=I.ax d u h
 have ex : ∃ od,s.heap.get? d = some od:=by
  cases u with
  | lst xs => obtain ⟨_,_,_,_,e⟩:=x; exact ⟨_,e⟩
  | dK kvs => obtain ⟨_,_,_,_,o,_,_,e,_⟩:=x; exact ⟨o,e⟩
  | dT kvs => obtain ⟨_,_,_,_,o,_,_,e,_⟩:=x; exact ⟨o,e⟩
  | set S n => obtain ⟨o,_,_,_,e,_⟩:=x; exact ⟨o,e⟩
  | ins C dx fs => obtain ⟨_,_,_,e,_⟩:=x; exact ⟨_,e⟩
  | ext φ => obtain ⟨_,⟨_,e⟩,_⟩:=x; exact ⟨_,e⟩
  | _ => exact False.elim mu
 obtain ⟨od,e⟩:=ex
 have new : bZ X.prog X.w (upd H d (.a7 od u)) s.heap d (.a7 od u):=by
  refine ⟨e,x.gc (fun b v _ q => q) (fun b q => ?_) fun b xs q => ?_⟩
  ·rw [ag (fun z => by rw [z,h] at q; cases q; exact mu)]; exact q
  ·rw [ag (fun z => by rw [z,h] at q; cases q; exact mu)]; exact q
 exact ⟨od,I.write (x:=d) (e:=d) (t':=s.toks) (h':=s.heap) (by rw [h]; exact mu) (.inl rfl) (fun b v _ q => q) ⟨od,e⟩ new⟩
theorem Inv.nI {d : Addr} {u : HO} (I : Inv X pins σ H s) (h : H d = some u) (mu : kh (some u)) : ∀ o' u',X.lL d ≠ some (.a7 o' u'):=fun o' u' e => by
 have q:=I.base.fD d o' u' e
 rw [h] at q
 cases q
 exact mu
theorem Inv.unlock {d : Addr} {od : Obj} {u : HO} (I : Inv X pins σ H s) (h : H d = some (.a7 od u)) (hn : ∀ o' u',X.lL d ≠ some (.a7 o' u')) : Inv X pins σ (upd H d u) s:=by
 have neH : ∀ b o,H b = some o → (∀ o' u',o ≠ .a7 o' u') → b ≠ d:=fun b o e hne z => by
  rw [z,h] at e
  cases e
  exact hne _ _ rfl
 have neN : ∀ b,H b = none → b ≠ d:=fun b e z => by rw [z,h] at e; cases e
 refine ⟨I.ok,I.os,I.bare,⟨I.base.keep,I.base.slot,fun b o e n hx => ?_,I.base.there,fun b xs e => ?_,fun b o x e => ?_,fun b ps e => ?_⟩,I.loc,I.cell,?_,fun x c e => ?_,fun p hp => ?_,fun b o e => ?_,I.len⟩
 ·rw [ag (neN b (I.base.free b o e n hx))]; exact I.base.free b o e n hx
 ·have q:=I.base.ij b xs e
  rw [ag (neH b _ q (fun _ _ z => nomatch z))]; exact q
 ·have q:=I.base.fD b o x e
  rw [ag (fun z => by rw [z] at e; exact hn _ _ e)]; exact q
 ·obtain ⟨m,q⟩:=I.base.ik b ps e
  exact ⟨m,by rw [ag (neH b _ q (fun _ _ z => nomatch z))]; exact q⟩
 ·rw [ag (neN _ I.free)]; exact I.free
 ·rw [ag (neN c (I.eD x c e))]; exact I.eD x c e
 ·obtain ⟨e,n,r⟩:=I.pin p hp
  exact ⟨e,by rw [ag (neN _ n)]; exact n,r⟩
 ·by_cases hb : b = d
  ·rw [hb,af] at e
   cases e
   rw [hb]
   obtain ⟨_,x⟩:=I.ax d _ h
   exact x.gc (fun c v _ q => q) (fun c q => by rw [ag (neH c _ q (fun _ _ z => nomatch z))]; exact q) fun c xs q => by rw [ag (neH c _ q (fun _ _ z => nomatch z))]; exact q
  ·rw [ag hb] at e
   exact (I.ax b o e).gc (fun c v _ q => q) (fun c q => by rw [ag (neH c _ q (fun _ _ z => nomatch z))]; exact q) fun c xs q => by rw [ag (neH c _ q (fun _ _ z => nomatch z))]; exact q
end
def TM (t : TS) : TS:=fun D σ H => ∃ d u,H d = some u ∧ kh (some u) ∧ ∀ od,t ⟨fun σ' H' => H' d = some (.a7 od u) ∧ D.nx σ' (upd H' d u),fun v H' => H' d = some (.a7 od u) ∧ D.rt v (upd H' d u),fun σ' H' => H' d = some (.a7 od u) ∧ D.bk σ' (upd H' d u),fun σ' H' => H' d = some (.a7 od u) ∧ D.ct σ' (upd H' d u)⟩ σ (upd H d (.a7 od u))
def TK (t : TE) : TE:=fun σ H Q => ∃ d u,H d = some u ∧ kh (some u) ∧ ∀ od,t σ (upd H d (.a7 od u)) fun v H' => H' d = some (.a7 od u) ∧ Q v (upd H' d u)
section
variable {X : Cx}
theorem Xw {st : Stmt} {t : TS} (h : PS X st t) : PS X st (TM t):=by
 intro pins s σ H D I hw
 obtain ⟨d,u,hd,mu,hw⟩:=hw
 obtain ⟨od,I1⟩:=I.lock hd mu
 refine aJ (h pins s σ _ _ I1 (hw od)) fun f s1 q => ?_
 cases f with
 | next => obtain ⟨σ',H',I2,e,q⟩:=q; exact ⟨σ',_,I2.unlock e (I.nI hd mu),q⟩
 | brk => obtain ⟨σ',H',I2,e,q⟩:=q; exact ⟨σ',_,I2.unlock e (I.nI hd mu),q⟩
 | cont => obtain ⟨σ',H',I2,e,q⟩:=q; exact ⟨σ',_,I2.unlock e (I.nI hd mu),q⟩
 | ret v => obtain ⟨x,σ',H',I2,r,e,q⟩:=q; exact ⟨x,σ',_,I2.unlock e (I.nI hd mu),r,q⟩
theorem Kh {e : Expr} {t : TE} (h : PE X e t) : PE X e (TK t):=by
 intro pins s σ H Q I hw
 obtain ⟨d,u,hd,mu,hw⟩:=hw
 obtain ⟨od,I1⟩:=I.lock hd mu
 refine aJ (h pins s σ _ _ I1 (hw od)) fun v s1 ⟨x,H1,I2,r,e2,q⟩ => ?_
 exact ⟨x,_,I2.unlock e2 (I.nI hd mu),r,q⟩
theorem m6 {tg : Expr} {pins : List (Addr × Obj)} {σ : St} {H : Hp} {s : Shared} {R : It → Hp → Prop} {J : It} {tn : Nat → Heap → Prop} {tk : Nat} (I : Inv X pins σ H s) (o : Obj)
 (T : Turn X.prog X.w X.K tg J [s.heap.objs.size] s.heap.objs.size tn) (st : tn 0 (s.heap.push o)) (q : R J H) : sO X pins σ tg R (.ref s.heap.objs.size) { s with heap:=s.heap.push o,toks:=tk }:=by
 refine ⟨s.heap.objs.size,[s.heap.objs.size],tn,J,H,rfl,I.kept fun b ob e => Heap.get?_push_of_some _ e,T,st,fun b hb => ?_,q⟩
 have e : b = s.heap.objs.size:=by simpa using hb
 subst e
 exact I.nW (Nat.le_refl _) (I.ax.fresh (Nat.le_refl _))
end
section
variable {X : Cx} {tg : Expr}
end
def oA (K : PySem.W.Frag) (a : Addr) (n : Nat) : It :=
 ⟨fun i H => i < n ∧ ∃ (xs : List V) (x : V),az K H a xs ∧ xs[n - 1 - i]? = some x,fun i H x H' => H' = H ∧ ∀ xs,az K H a xs → xs[n - 1 - i]? = some x,fun i _ => n ≤ i⟩
theorem S7 {P : Program} {w : World} {K : PySem.W.Frag} {tg : Expr} (a it : Addr) (n : Nat) : Turn P w K tg (oA K a n) [it] it (fun i h => i ≤ n ∧ h.IsRevIter it a ((n : Int) - 1 - (i : Nat))) where
 mem:=by simp
 obj:=fun i h st b hb => by
  have e : b = it:=by simpa using hb
  subst e
  obtain ⟨_,o,e,c,d⟩:=st
  exact ⟨o,e,fun v z => by rw [d] at z; cases z⟩
 keep:=fun i h h' st k => ⟨st.1,st.2.at fun o e => k it (by simp) o e⟩
 item:=by
  intro X hP hw hK hc i pins s σ H E I hf st hg
  subst hP hw hK
  obtain ⟨hin,xs,x,hq,hx⟩:=hg
  obtain ⟨its,rv,p,hz⟩:=I.list hq
  obtain ⟨u,hu,ru⟩:=rv.get hx
  obtain ⟨f0,f1,f2,f3,f4,f5⟩:=hf it (by simp)
  obtain ⟨_,hit⟩:=st
  have e1 : (n : Int) - 1 - ((i : Nat) : Int) = ((n - 1 - i : Nat) : Int):=by omega
  rw [e1] at hit
  refine wpAny_pyNext_rev_item hit p.isList (x:=u) (by simpa using hu) fun h' st' sb => ?_
  have e2 : ((n - 1 - i : Nat) : Int) - 1 = (n : Int) - 1 - ((i + 1 : Nat) : Int):=by omega
  rw [e2] at st'
  have I1 : Inv X pins σ H { s with heap:=h' }:=I.turned (t':=s.toks) (fun b o hb e => (sb.2 b hb).trans e) f0 f1 f3 f4 f5
  obtain ⟨o,e,c,d⟩:=id st'
  exact ⟨u,rfl,qy (s:={ s with heap:=h' }) e c d (by decide) ⟨x,H,I1,ru,⟨rfl,fun ys hy => by rw [I.Lu hy hq]; exact hx⟩,⟨hin,st'⟩,fun b hb => (hf b hb).1⟩⟩
 done:=by
  intro X hP hw hK hc i pins s σ H E I hf st hg
  subst hP hw hK
  obtain ⟨f0,f1,f2,f3,f4,f5⟩:=hf it (by simp)
  obtain ⟨hin,hit⟩:=st
  have hge : n ≤ i:=hg
  have e1 : (n : Int) - 1 - ((i : Nat) : Int) = -1:=by omega
  rw [e1] at hit
  exact wpAny_pyNext_rev_end (I.ok.hd hc) hit fun h' eb => ⟨rfl,I.turned (t':=s.toks) (fun b o hb e => eb b o hb e) f0 f1 f3 f4 f5⟩
 self:=fun A i s Q E st h => wpAny_pyIter_revIter st.2 h
def abG (K : PySem.W.Frag) (ta : TA) : TI:=fun σ H R => ta σ H fun vs H1 => ∃ (a : Addr) (xs : List V),vs = [.ref a] ∧ az K H1 a xs ∧ R (oA K a xs.length) H1
section
variable {X : Cx} {tg : Expr}
theorem XB {e : Expr} {ta : TA} {p pos : Pos} (hg : Gl X "reversed") (hm : X.mg "reversed" = none) (ha : PA X [e] ta) (hs : starEach [e] X.env = [(false,eval e X.env)]:=by rfl) : PI X tg (.Call (.Name "reversed" p) [e] [] pos) (abG X.K ta):=by
 intro pins s σ H R I h
 refine Call_ (nT I hg hm adR (PyProof.Rows.callWith_type1 (aJ (ha pos pins s σ H _ I h) fun us s1 ⟨vs,H1,I1,r1,q1⟩ => ?_) hs rfl))
 obtain ⟨a,xs,e,hq,q⟩:=q1
 subst e
 cases r1 with
 | cons r rr =>
   cases rr
   cases r
   obtain ⟨its,rv,p',hz⟩:=I1.list hq
   have hl:=rv.length
   have e1 : ((its.toArray.size : Nat) : Int) - 1 = (xs.length : Int) - 1 - ((0 : Nat) : Int):=by simp only [List.size_toArray]; omega
   refine call_reversed_list p'.isList (wpAny_pyIter_revIter (l:=a) (i:=((its.toArray.size : Nat) : Int) - 1) ⟨_,Heap.get?_push_size _ rfl,rfl,rfl⟩ ?_)
   refine m6 (tk:=s1.toks) I1 _ (S7 a _ xs.length) ⟨Nat.zero_le _,?_⟩ q
   rw [← e1]
   exact ⟨_,Heap.get?_push_size _ rfl,rfl,rfl⟩
end
def oB (x : Str) : It:=⟨fun i _ => i < x.cps.size,fun i H v H' => H' = H ∧ ∃ c,x.cps[i]? = some c ∧ v = .str ⟨#[c]⟩,fun i _ => x.cps.size ≤ i⟩
theorem Ga {P : Program} {w : World} {K : PySem.W.Frag} {tg : Expr} (it : Addr) (x : Str) (t : Tok) (ty : String) (hty : ty = "str_ascii_iterator" ∨ ty = "str_iterator") :
 Turn P w K tg (oB x) [it] it (fun i h => h.IsStrIter it ty x t i) where
 mem:=by simp
 obj:=fun i h st b hb => by
  have e : b = it:=by simpa using hb
  subst e
  obtain ⟨o,e,c,d⟩:=st
  exact ⟨o,e,fun v z => by rw [d] at z; cases z⟩
 keep:=fun i h h' st k => let ⟨o,ho,r⟩:=st; ⟨o,k it (by simp) o ho,r⟩
 item:=by
  intro X hP hw hK hc i pins s σ H E I hf st hg
  subst hP hw hK
  obtain ⟨f0,f1,f2,f3,f4,f5⟩:=hf it (by simp)
  have W : Walks X.prog X.w X.A it [it] [it] x.cps.size (SignAt x) (fun i h => h.IsStrIter it ty x t i):=by
   rcases hty with e | e
   ·rw [e]; exact Walks.strAscii (I.ok.hd hc) it x t
   ·rw [e]; exact Walks.strWide (I.ok.hd hc) it x t
  have hno : ["enumerate","zip","dict_itemiterator","dict_reverseitemiterator","odict_iterator","itertools.zip_longest","itertools.pairwise"].contains ty = false:=by
   rcases hty with e | e
   ·rw [e]; decide
   ·rw [e]; decide
  refine W.item i s _ _ hg st fun v h' tk hv st' kk => ?_
  obtain ⟨c,u,hcx,rfl⟩:=hv
  have I1 : Inv X pins σ H { s with heap:=h',toks:=tk }:=I.turned (fun b o hb e => kk b o (by simpa using hb) e) f0 f1 f3 f4 f5
  obtain ⟨oi,e,cc,dd⟩:=id st'
  exact ⟨_,rfl,qy (s:={ s with heap:=h',toks:=tk }) e cc dd hno ⟨.str ⟨#[c]⟩,H,I1,⟨u,rfl⟩,⟨rfl,c,hcx,rfl⟩,st',fun b hb => (hf b hb).1⟩⟩
 done:=by
  intro X hP hw hK hc i pins s σ H E I hf st hg
  subst hP hw hK
  obtain ⟨f0,f1,f2,f3,f4,f5⟩:=hf it (by simp)
  have hx : x.cps[i]? = none:=Array.getElem?_eq_none hg
  rcases hty with e | e
  ·rw [e] at st
   exact wpAny_pyNext_ascii_end (I.ok.hd hc) st hx fun h' eb => ⟨rfl,I.turned (t':=s.toks) (fun b o hb e => eb b o hb e) f0 f1 f3 f4 f5⟩
  ·rw [e] at st
   exact wpAny_pyNext_wide_end (I.ok.hd hc) st hx fun h' eb => ⟨rfl,I.turned (t':=s.toks) (fun b o hb e => eb b o hb e) f0 f1 f3 f4 f5⟩
 self:=fun A i s Q E st h => by
  rcases hty with e | e
  ·rw [e] at st; exact wpAny_pyIter_striter_ascii st h
  ·rw [e] at st; exact wpAny_pyIter_striter_wide st h
def abF (te : TE) : TI:=fun σ H R => te σ H fun v H1 => ∃ x,v = .str x ∧ R (oB x) H1
theorem XA {X : Cx} {tg e : Expr} {te : TE} (he : PE X e te) : PI X tg e (abF te):=by
 intro pins s σ H R I h
 refine aJ (he pins s σ H _ I h) fun v s1 ⟨y,H1,I1,r1,x,ex,q⟩ => ?_
 subst ex
 obtain ⟨t,rfl⟩:=r1
 cases ha : x.cps.all (· < 128)
 ·exact wpAny_pyIter_wide ha (m6 (tk:=s1.toks) I1 _ (Ga _ x t "str_iterator" (.inr rfl)) ⟨_,Heap.get?_push_size _ rfl,rfl,rfl⟩ q)
 ·exact wpAny_pyIter_ascii ha (m6 (tk:=s1.toks) I1 _ (Ga _ x t "str_ascii_iterator" (.inl rfl)) ⟨_,Heap.get?_push_size _ rfl,rfl,rfl⟩ q)
section
variable {prog : Program} {w : World} {A : Around} {E : Value → Shared → Prop} {s : Shared}
end
theorem XQ {α β : Type} {G : α → β → Prop} {l₁ : List α} {l₂ : List β} (h : Paired G l₁ l₂) : ∀ {i : Nat} {a : α},l₁[i]? = some a → ∃ b,l₂[i]? = some b ∧ G a b:=by
 induction h with
 | nil => intro i a e; simp at e
 | @cons a b l₁ l₂ r t ih =>
   intro i a' e
   cases i with
   | zero =>
     simp only [List.getElem?_cons_zero,Option.some.injEq] at e
     subst e
     exact ⟨b,rfl,r⟩
   | succ j =>
     simp only [List.getElem?_cons_succ] at e ⊢
     exact ih e
section
variable {X : Cx} {pins : List (Addr × Obj)} {σ : St} {H : Hp} {s : Shared} {d : Addr} {o : Obj}
end
theorem qD {o : Obj} {es es' : Array DictEntry} {ep ep' : Nat} (h : o.data = .dict es ep) (h' : o.data = .dict es' ep') : es' = es ∧ ep' = ep:=by
 rw [h] at h'
 cases h'
 exact ⟨rfl,rfl⟩
section
variable {P : Program} {w : World} {K : PySem.W.Frag} {tg : Expr} {d : Addr} {o : Obj} {es : Array DictEntry} {ep : Nat}
end
section
variable {X : Cx} {tg e : Expr} {td : TE} {apos cpos : Pos}
end
theorem adQ : bootBuiltins "zip" = some (.type "zip"):=by decide +kernel
end L2
section
end
section
namespace TL
open PySem PySem.Builtin PySem.Builtin.Str PySem.StrLaws
abbrev tl (x : Str) : List Nat:=x.cps.toList
theorem Gi (x y : Str) : tl (x ++ y) = tl x ++ tl y:=by
 show (x ++ y).cps.toList = _
 rw [Str.cps_append,Array.toList_append]
def eQ (S : List Nat) : List (List Nat) → List Nat
 | [] => []
 | [p] => p
 | p :: q :: r => p ++ (S ++ eQ S (q :: r))
theorem Gh (y : Str) : ∀ parts : List Str,tl (Str.join y parts) = eQ (tl y) (parts.map tl)
 | [] => rfl
 | [_] => rfl
 | x :: z :: r => by
   show tl (x ++ y ++ Str.join y (z :: r)) = tl x ++ (tl y ++ eQ (tl y) ((z :: r).map tl))
   rw [Gi,Gi,Gh y (z :: r),List.append_assoc]
theorem join_eq (y : Str) (parts : List Str) : Txt.join y parts = Str.join y parts:=glued_eq_join y parts
def aaM (n : Nat) : List Nat:=(Nat.toDigits 10 n).map Char.toNat
theorem Gg (n : Nat) : tl (Str.ofString (toString ((n : Nat) : Int))) = aaM n:=PySem.W.KIN.signs_num n
end TL
end
namespace L2
open PySem PySem.Spec PyProof.Rows
theorem ua : ∀ {ys : List Str} {us : List Value},Vals (ys.map V.str) us → StrsAre us ys
 | [],_,.nil => .nil
 | y :: ys,_,.cons r t => by
   obtain ⟨k,rfl⟩:=r
   exact .cons y k (ua t)
section
variable {X : Cx} {pins : List (Addr × Obj)} {σ : St} {H : Hp} {s : Shared} {Q : VK}
end
section
variable {X : Cx}
theorem aa0 : EX X "str.join" (fun x xs H Q => ∃ a p,∃ ys : List Str,x = .str a ∧ xs = [.ref p] ∧ (az X.K H p (ys.map V.str) ∨ a4 X.K H p (ys.map V.str)) ∧
 (ys.map (·.length)).sum + ys.length * a.length ≤ 16777216 ∧ Q (.str (Txt.join a ys)) H):=by
 intro pins s σ H x xs v us Q I rx rs h
 obtain ⟨a,p,ys,rfl,rfl,hp,hz,h⟩:=h
 obtain ⟨t,rfl⟩:=rx
 cases rs with
 | cons r1 rs =>
   cases rs
   cases r1
   rcases hp with hp | hp
   ·obtain ⟨its,r,⟨o,n,ho,hc,_,hd⟩,_⟩:=I.list hp
    exact PyProof.Rows.join_list (items:=its.toArray) ⟨o,ho,hc,n,hd⟩ (by rw [List.toList_toArray]; exact ua r) hz fun t' k => ⟨.str _,H,I.tok k,⟨t',rfl⟩,h⟩
   ·obtain ⟨its,r,ht,_⟩:=I.tuple hp
    exact PyProof.Rows.join_tuple (items:=its.toArray) ht (by rw [List.toList_toArray]; exact ua r) hz fun t' k => ⟨.str _,H,I.tok k,⟨t',rfl⟩,h⟩
end
section
variable {X : Cx} {o e : Expr} {to te : TE}
def GU (r : V → List V → Hp → VK → Prop) (to te : TE) : TE:=fun σ H Q => to σ H fun x H1 => (∃ a,x = .str a) ∧ te σ H1 fun y H2 => r x [y] H2 Q
theorem XH {id : String} {name : Str} {apos pos : Pos} {r : V → List V → Hp → VK → Prop} (slot : Slot "str" name id) (ty : typeOf (.builtin id) = pure (.type "method_descriptor")) (rule : EX X id r) (ho : PE X o to) (he : PE X e te)
 (hs : starEach [e] X.env = [(false,eval e X.env)]:=by rfl) (hbase : attributeBase o name X.env (eval o X.env) = eval o X.env:=by rfl) (hline : (apos.endLine == pos.line) = true:=by rfl) :
 PE X (.Call (.Attribute o name apos) [e] [] pos) (GU r to te):=by
 intro pins s σ H Q I h
 refine PySem.Call_method1 hbase hs hline (aJ (ho pins s σ H _ I h) fun v s1 ⟨x,H1,I1,r1,q1⟩ => ?_)
 obtain ⟨⟨a,rfl⟩,q1⟩:=q1
 obtain ⟨t,rfl⟩:=_root_.id r1
 refine ⟨"str",_,F.plainAttrs_str,slot,ty,typeIs_str _ _ _,(fun _ e => nomatch e),Calls.callWith_builtin rfl (Calls.evalArgs_plain (Calls.spliced_cons ?_))⟩
 exact aJ (he pins s1 σ H1 _ I1 q1) fun u s2 ⟨y,H2,I2,r2,q2⟩ => Calls.spliced_nil (rule pins s2 σ H2 _ [y] _ [u] Q I2 r1 (.cons r2 .nil) q2)
theorem XI {apos pos : Pos} (ho : PE X o to) (he : PE X e te) (hs : starEach [e] X.env = [(false,eval e X.env)]:=by rfl) (hbase : attributeBase o "join" X.env (eval o X.env) = eval o X.env:=by rfl) (hline : (apos.endLine == pos.line) = true:=by rfl) :
 PE X (.Call (.Attribute o "join" apos) [e] [] pos) (GU (fun x xs H Q => ∃ a p,∃ ys : List Str,x = .str a ∧ xs = [.ref p] ∧ (az X.K H p (ys.map V.str) ∨ a4 X.K H p (ys.map V.str)) ∧
  (ys.map (·.length)).sum + ys.length * a.length ≤ 16777216 ∧ Q (.str (Txt.join a ys)) H) to te) :=
 XH F.slot_str_join F.type_str_join aa0 ho he hs hbase hline
end
end L2
namespace L2
open PySem PySem.Spec PyProof.Rows
section
variable {X : Cx}
end
end L2
namespace Att
open PySem PySem.W PySem.Calls PyProof.Rows
section
variable {prog : Program} {w : World} {A : Around} {E : Value → Shared → Prop} {s : Shared} {K : Frag}
end
end Att
namespace L2
open PySem PySem.Spec PyProof.Rows
def inClass (s : Stmt) (j : Nat) : Stmt:=match s with
 | .ClassDef _ _ _ body _ _ _ _ _ _ _ => body.getD j (.Pass ⟨0,0,0,0⟩)
 | _ => .Pass ⟨0,0,0,0⟩
def ak (s : Stmt) : Arguments:=match s with
 | .FunctionDef _ a _ _ _ _ _ _ _ _ => a
 | _ => { posonlyargs:=[],args:=[],vararg:=none,kwonlyargs:=[],kw_defaults:=[],kwarg:=none,defaults:=[] }
def aj (s : Stmt) : List Stmt:=match s with
 | .FunctionDef _ _ b _ _ _ _ _ _ _ => b
 | _ => []
def ab (s : Stmt) : Scope:=match s with
 | .FunctionDef _ _ _ _ _ _ sc _ _ _ => sc
 | _ => { kind:=.function,names:=[],isGenerator:=false,isCoroutine:=false }
abbrev aQ : eJ:=fun _ _ _ _ _ _ => False
abbrev E0 : XK:=fun _ _ _ => False
theorem aB {X : Cx} : Passes aQ X E0:=fun _ _ _ _ _ _ _ h => h.elim
structure aW (K : PySem.W.Frag) (x qual : Str) (st : Stmt) (f : Addr) (fd : FuncData) : Prop where
 ex : ∃ (oc : Value) (od : Option Addr) (kV doc pm : Value) (an : Option Addr) (cdv ct : Value) (osl : Array (Option Value)),
  fd = PySem.W.fnOf x qual (ak st) (aj st) (ab st) .none kV doc pm an cdv ct ∧ K.lookup f = some ⟨oc,od,.func fd,osl⟩ ∧ PySem.W.codeIn K cdv qual = true
 kp : PySem.W.keepIn K (.ref f) = true
section
variable {P : Program} {w : World} {K : PySem.W.Frag} {mg : Str → Option Value} {base : Heap}
theorem aW.ok {x qual : Str} {st : Stmt} {f : Addr} {fd : FuncData} {N ps : List Str} {k : Nat} {sp : Sp} (F : aW K x qual st f fd) (S : aX N ps (ab st)) (len : ∀ vs H Q E,sp vs H Q E → vs.length = ps.length)
 (hbody : ∀ (cdv : Value) (A : Around) (outer : List Env) (s : Shared) (H : Hp) (vs : List V) (Q : VK) (E : XK),aq k (A.deeper (envOfC qual (ab st) s.heap.objs.size f cdv)) → sp vs H Q E →
  ∃ t,eG (mP aQ P w K mg base N qual (ab st) f cdv A outer s H E).pZ (aj st) t ∧ t { nx:=fun _ H' => Q .aC H',rt:=Q } (start N vs) H) : aE P w K mg base aQ (k + 1) f fd ps sp:=by
 obtain ⟨oc,od,kV,doc,pm,an,cdv,ct,osl,rfl,lk,hcd⟩:=F.ex
 refine acZ lk hcd S len fun A outer s H vs Q E hr hsp => ?_
 obtain ⟨t,h,q⟩:=hbody cdv A outer s H vs Q E hr hsp
 exact ⟨t,h.pZ,q⟩
theorem aW.binds {x qual : Str} {st : Stmt} {f : Addr} {fd : FuncData} {ps : List Str} (F : aW K x qual st f fd)
 (h : ∀ (kV doc pm : Value) (an : Option Addr) (cdv ct : Value) (us : List Value),us.length = ps.length → bindArgs (PySem.W.fnOf x qual (ak st) (aj st) (ab st) .none kV doc pm an cdv ct) ⟨us,[]⟩ = pure (ps.zip us)) : Binds K fd ps []:=by
 obtain ⟨oc,od,kV,doc,pm,an,cdv,ct,osl,rfl,lk,hcd⟩:=F.ex
 exact .all (h kV doc pm an cdv ct)
theorem a3 {x qual : Str} {st : Stmt} {f : Addr} {oc : Value} {od an : Option Addr} {osl : Array (Option Value)} {kV doc pm cdv ct : Value} (l : K.lookup f = some ⟨oc,od,.func (PySem.W.fnOf x qual (ak st) (aj st) (ab st) .none kV doc pm an cdv ct),osl⟩)
 (c : PySem.W.codeIn K cdv qual = true) (k : PySem.W.keepIn K (.ref f) = true) : aW K x qual st f (PySem.W.fnOf x qual (ak st) (aj st) (ab st) .none kV doc pm an cdv ct):=⟨⟨oc,od,kV,doc,pm,an,cdv,ct,osl,rfl,l,c⟩,k⟩
end
theorem aZ {A : Around} {k : Nat} (hr : aq k A) : A.units + 1 < cLine:=Nat.lt_of_le_of_lt (Nat.add_le_add_left (by decide : 1 ≤ 64) _) hr.units
section
variable {X : Cx}
theorem pv (i : Nat) {x : Str} {pos : Pos} (hN : X.N[i]? = some x:=by rfl) (hv : ow X.env.scope x:=by first | exact Or.inl rfl | exact Or.inr (Or.inl rfl) | exact Or.inr (Or.inr rfl)) (hd : (x == ("__debug__" : Str)) = false:=by decide)
 (hcd : (x == ("__classdict__" : Str)) = false:=by decide) : PE X (.Name x pos) (oV i):=XD hN hv hd hcd
theorem adH : ic X (.builtin "len") (fun xs H Q => ∃ a kvs,xs = [V.ref a] ∧ H a = some (.dK kvs) ∧ Q (.int kvs.length) H):=by
 intro pins s σ H xs us Q I r h
 obtain ⟨a,kvs,rfl,ha,q⟩:=h
 obtain ⟨u,rfl,ru⟩:=vals1 r
 cases ru
 exact ado I (.inl ha) fun t s' I' => ⟨.int kvs.length,H,I',⟨t,rfl⟩,q⟩
end
theorem a8 {A B : Prop} (h : B) : if false = true then A else B:=by
 rw [if_neg Bool.false_ne_true]
 exact h
theorem bc {A B : Prop} (h : A) : if true = true then A else B:=by
 rw [if_pos rfl]
 exact h
theorem c7 {c A B : Prop} [Decidable c] (h1 : c → A) (h2 : ¬ c → B) : if c then A else B:=by
 by_cases h : c
 ·rw [if_pos h]
  exact h1 h
 ·rw [if_neg h]
  exact h2 h
def ao (H H' : Hp) : Prop:=∀ b o,H b = some o → H' b = some o
theorem ao.refl (H : Hp) : ao H H:=fun _ _ h => h
theorem ao.trans {H H1 H2 : Hp} (a : ao H H1) (b : ao H1 H2) : ao H H2:=fun c o h => b c o (a c o h)
theorem ao.free {H H' : Hp} (e : ao H H') {l : Addr} (h : H' l = Option.none) : H l = Option.none:=by
 cases q : H l with
 | none => rfl
 | some o =>
   rw [e l o q] at h
   cases h
theorem ao.seq {K : PySem.W.Frag} {H H' : Hp} {a : Addr} {xs : List V} (e : ao H H') (h : az K H a xs) : az K H' a xs:=by
 rcases h with (h | ⟨o,h⟩) | h
 ·exact .inl (.inl (e _ _ h))
 ·exact .inl (.inr ⟨o,e _ _ h⟩)
 ·exact .inr h
section
variable {κ : Type} [DecidableEq κ]
end
theorem at_of {xs : List V} {z : Int} {j : Nat} {v : V} (e : z = (j : Int)) (h : xs[j]? = some v) : cS xs z = some v:=by
 rw [e]
 exact ef h
theorem ao.made {H H1 : Hp} {x dx C : Addr} (nx : H x = Option.none) (nd : H dx = Option.none) (k : ∀ b o,(upd (upd H dx (.own x)) x (.ins C dx [])) b = some o → b ≠ x → H1 b = some o) : ao H H1:=fun b o e =>
 k b o (by rw [ag (bj e nx),ag (bj e nd)]; exact e) (bj e nx)
end L2
section
namespace L2
open PySem PySem.Spec PyProof.Rows
open PySem.W (WData Codec OpenSpec Well WellAll ReadsW ReadsAllW)
mutual
inductive Dw (K : PySem.W.Frag) (H : Hp) : V → WData → Prop
 | aC : Dw K H .aC .none
 | bl (b : Bool) : Dw K H (.bl b) (.bool b)
 | int (i : Int) : Dw K H (.int i) (.int i)
 | str (x : Str) : Dw K H (.str x) (.str x)
 | dF (b : Array UInt8) : Dw K H (.dF b) (.bytes b.toList)
 | lst {a : Addr} {xs : List V} {ds : List WData} : az K H a xs → eY K H xs ds → Dw K H (.ref a) (.list ds)
 | tup {a : Addr} {xs : List V} {ds : List WData} : a4 K H a xs → eY K H xs ds → Dw K H (.ref a) (.tuple ds)
inductive eY (K : PySem.W.Frag) (H : Hp) : List V → List WData → Prop
 | nil : eY K H [] []
 | cons {v : V} {vs : List V} {d : WData} {ds : List WData} : Dw K H v d → eY K H vs ds → eY K H (v :: vs) (d :: ds)
end
theorem ND {K : PySem.W.Frag} {H : Hp} : ∀ ns : List Int,eY K H (ns.map V.int) (ns.map WData.int)
 | [] => .nil
 | n :: r => .cons (.int n) (ND r)
theorem MP {K : PySem.W.Frag} {H : Hp} : ∀ (ns : List Int) (xs : List V),eY K H xs (ns.map WData.int) → xs = ns.map V.int
 | [],xs,h => by
   cases h
   rfl
 | n :: r,xs,h => by
   cases h with
   | cons h1 h2 =>
     cases h1
     rw [MP r _ h2] <;> rfl
section
variable {P : Program} {w : World} {K : PySem.W.Frag} {H : Hp} {h : Heap} {R : PySem.W.WRecords} {cl : Str → Option Addr}
theorem Uh {a : Addr} {xs : List V} (ax : bT P w H h) (KX : K.In h) (q : az K H a xs) : ∃ (its : List Value) (o : Obj) (n : Nat),Vals xs its ∧ h.get? a = some o ∧ o.cls = .type "list" ∧ o.data = .seq its.toArray n:=by
 rcases q with q | ⟨o,its,n,e,hc,_,hd,_,hv⟩
 ·obtain ⟨_,its,n,hv,e⟩:=(show bZ P w H h a (.lst xs) from q.ok ax)
  exact ⟨its,_,n,hv,e,rfl,rfl⟩
 ·exact ⟨its.toList,o,n,hv,KX _ _ e,hc,by simp [hd]⟩
theorem Ug {a : Addr} {xs : List V} (ax : bT P w H h) (KX : K.In h) (q : a4 K H a xs) : ∃ (its : List Value) (o : Obj) (n : Nat),Vals xs its ∧ h.get? a = some o ∧ o.cls = .type "tuple" ∧ o.data = .seq its.toArray n:=by
 rcases q with q | ⟨o,its,n,e,hc,hd,_,hv⟩
 ·obtain ⟨_,its,hv,o,e,hc,n,hd⟩:=(show bZ P w H h a (.tup xs) from q.ok ax)
  exact ⟨its,o,n,hv,e,hc,hd⟩
 ·exact ⟨its.toList,o,n,hv,KX _ _ e,hc,by simp [hd]⟩
mutual
theorem Dw.reads (ax : bT P w H h) (KX : K.In h) : ∀ (d : WData) (v : V) (u : Value),Dw K H v d → RelV v u → ∃ as,ReadsW R cl h u d as
 | .none,_,_,x,r => by
   cases x
   cases r
   exact ⟨_,ReadsW.none⟩
 | .bool b,_,_,x,r => by
   cases x
   cases r
   exact ⟨_,ReadsW.bool b⟩
 | .int i,_,_,x,r => by
   cases x
   obtain ⟨t,rfl⟩:=r
   exact ⟨_,ReadsW.int i t⟩
 | .str s,_,_,x,r => by
   cases x
   obtain ⟨t,rfl⟩:=r
   exact ⟨_,ReadsW.str s t⟩
 | .bytes b,_,_,x,r => by
   cases x
   obtain ⟨t,rfl⟩:=r
   exact ⟨_,ReadsW.bytes _ t⟩
 | .list ds,_,_,x,r => by
   cases x with
   | lst hs ha =>
     cases r
     obtain ⟨its,o,n,rv,ho,hc,hd⟩:=Uh ax KX hs
     obtain ⟨as,hr⟩:=Dw.readsAll ax KX ds _ its ha rv
     exact ⟨_,ReadsW.list ho hc hd hr⟩
 | .tuple ds,_,_,x,r => by
   cases x with
   | tup hs ha =>
     cases r
     obtain ⟨its,o,n,rv,ho,hc,hd⟩:=Ug ax KX hs
     obtain ⟨as,hr⟩:=Dw.readsAll ax KX ds _ its ha rv
     exact ⟨_,ReadsW.tuple ho hc hd hr⟩
 | .float _,_,_,x,_ => by cases x
 | .dict _,_,_,x,_ => by cases x
 | .bytearray _,_,_,x,_ => by cases x
 | .set _,_,_,x,_ => by cases x
 | .frozenset _,_,_,x,_ => by cases x
 | .obj _ _,_,_,x,_ => by cases x
theorem Dw.readsAll (ax : bT P w H h) (KX : K.In h) : ∀ (ds : List WData) (vs : List V) (us : List Value),eY K H vs ds → Vals vs us → ∃ as,ReadsAllW R cl h us ds as
 | [],_,_,x,r => by
   cases x
   cases r
   exact ⟨_,ReadsAllW.nil⟩
 | d :: ds,_,_,x,r => by
   cases x with
   | cons h1 h2 =>
     cases r with
     | cons r1 r2 =>
       obtain ⟨as,q1⟩:=Dw.reads ax KX d _ _ h1 r1
       obtain ⟨bs,q2⟩:=Dw.readsAll ax KX ds _ _ h2 r2
       exact ⟨_,ReadsAllW.cons q1 q2⟩
end
end
mutual
def dS : WData → Bool
 | .none => true
 | .bool _ => true
 | .int _ => true
 | .str _ => true
 | .bytes _ => true
 | .list xs => eO xs
 | .tuple xs => eO xs
 | _ => false
def eO : List WData → Bool
 | [] => true
 | x :: r => dS x && eO r
end
theorem Ka {α : Type} {f : α → WData} (h : ∀ a,dS (f a) = true) : ∀ l : List α,eO (l.map f) = true
 | [] => rfl
 | x :: r => by
   show (dS (f x) && eO (r.map f)) = true
   rw [h x,Ka h r] <;> rfl
theorem kC : ∀ (c : Codec) (a : c.denote),dS (c.enc a) = true
 | .unit,_ => rfl
 | .bool,_ => rfl
 | .int _ _,_ => rfl
 | .nat _ _,_ => rfl
 | .u8,_ => rfl
 | .bytes _ _,_ => rfl
 | .text _ _ _ _,_ => rfl
 | .list _ _ c,a => Ka (fun x => kC c x) a
 | .pair c d,a => by
   show (dS (c.enc a.1) && (dS (d.enc a.2) && true)) = true
   rw [kC c a.1,kC d a.2] <;> rfl
 | .triple c d e,a => by
   show (dS (c.enc a.1) && (dS (d.enc a.2.1) && (dS (e.enc a.2.2) && true))) = true
   rw [kC c a.1,kC d a.2.1,kC e a.2.2] <;> rfl
 | .option c,none => rfl
 | .option c,some x => kC c x
theorem J9 : ∀ (cs : List Codec) (a : Codec.denoteAll cs),eO (Codec.encAll cs a) = true
 | [],_ => rfl
 | c :: cs,a => by
   show (dS (c.enc a.1) && eO (Codec.encAll cs a.2)) = true
   rw [kC c a.1,J9 cs a.2] <;> rfl
theorem tX : ∀ {xs : List WData} {d : WData},d ∈ xs → d.weight ≤ WData.weightAll xs
 | [],d,h => absurd h (by simp)
 | x :: r,d,h => by
   show d.weight ≤ x.weight + 1 + WData.weightAll r
   rcases List.mem_cons.mp h with e | m
   ·rw [e]
    omega
   ·have z:=tX m
    omega
def toV : Value → V
 | .none => .aC
 | .bool b => .bl b
 | .int i _ => .int i
 | .str x _ => .str x
 | .bytes b _ => .dF b
 | .ref a => .ref a
 | _ => .aC
def eI (A : List Addr) : Value → Prop
 | .none => True
 | .bool _ => True
 | .int _ _ => True
 | .str _ _ => True
 | .bytes _ _ => True
 | .ref a => a ∈ A
 | _ => False
theorem eI.mono {A B : List Addr} (h : ∀ a ∈ A,a ∈ B) : ∀ {u : Value},eI A u → eI B u:=fun {u} x => by
 cases u with
 | ref a => exact h a x
 | none => trivial
 | bool b => trivial
 | int i t => trivial
 | str s t => trivial
 | bytes b t => trivial
 | _ => exact False.elim x
theorem WY {A : List Addr} {u : Value} (x : eI A u) : RelV (toV u) u:=by
 cases u with
 | ref a => rfl
 | none => rfl
 | bool b => rfl
 | int i t => exact ⟨t,rfl⟩
 | str s t => exact ⟨t,rfl⟩
 | bytes b t => exact ⟨t,rfl⟩
 | _ => exact False.elim x
theorem lS {A : List Addr} : ∀ {vs : List Value},(∀ u ∈ vs,eI A u) → Vals (vs.map toV) vs
 | [],_ => .nil
 | u :: r,h => .cons (WY (h u (List.mem_cons_self ..))) (lS fun x hx => h x (List.mem_cons_of_mem _ hx))
def eZ (h : Heap) (A : List Addr) (a : Addr) : Prop:=∃ vs : List Value,vs.length ≤ sizeLine ∧ (∀ u ∈ vs,eI A u) ∧
 (h.get? a = some { cls:=.type "list",data:=.seq vs.toArray } ∨ h.get? a = some { cls:=.type "tuple",data:=.seq vs.toArray })
theorem eZ.mono {h : Heap} {A B : List Addr} {a : Addr} (k : ∀ a ∈ A,a ∈ B) (x : eZ h A a) : eZ h B a:=by
 obtain ⟨vs,h1,h2,h3⟩:=x
 exact ⟨vs,h1,fun u hu => (h2 u hu).mono k,h3⟩
theorem oK {P : Params} {h : Heap} : ∀ {vs : List Value} {ds : List WData},WellAll P h vs ds → vs.length = ds.length
 | _,_,.nil => rfl
 | _,_,.cons _ b => by
   show _ + 1 = _ + 1
   rw [oK b]
theorem FW {P : Params} {h : Heap} {v : Value} {ds : List WData} (x : Well P h v (.list ds)) : ∃ (a : Addr) (vs : List Value),v = .ref a ∧ h.get? a = some { cls:=.type "list",data:=.seq vs.toArray } ∧ WellAll P h vs ds:=by
 cases x with
 | list ho hall => exact ⟨_,_,rfl,ho,hall⟩
theorem FV {P : Params} {h : Heap} {v : Value} {ds : List WData} (x : Well P h v (.tuple ds)) : ∃ (a : Addr) (vs : List Value),v = .ref a ∧ h.get? a = some { cls:=.type "tuple",data:=.seq vs.toArray } ∧ WellAll P h vs ds:=by
 cases x with
 | tuple ho hall => exact ⟨_,_,rfl,ho,hall⟩
theorem FX {P : Params} {h : Heap} {us : List Value} {d : WData} {ds : List WData} (x : WellAll P h us (d :: ds)) : ∃ (v : Value) (vs : List Value),us = v :: vs ∧ Well P h v d ∧ WellAll P h vs ds:=by
 cases x with
 | cons a b => exact ⟨_,_,rfl,a,b⟩
theorem Lv {n : Nat} (h : n ≤ 1048576) : n ≤ sizeLine:=Nat.le_trans h (by decide)
section
variable {P : Params} {h : Heap}
mutual
theorem aeO : ∀ (d : WData) (v : Value),Well P h v d → dS d = true → d.weight ≤ 1048576 → ∃ A : List Addr,eI A v ∧ ∀ a ∈ A,eZ h A a
 | .none,_,x,_,_ => by
   cases x
   exact ⟨[],trivial,fun a m => absurd m (by simp)⟩
 | .bool b,_,x,_,_ => by
   cases x
   exact ⟨[],trivial,fun a m => absurd m (by simp)⟩
 | .int i,_,x,_,_ => by
   cases x
   exact ⟨[],trivial,fun a m => absurd m (by simp)⟩
 | .str s,_,x,_,_ => by
   cases x
   exact ⟨[],trivial,fun a m => absurd m (by simp)⟩
 | .bytes b,_,x,_,_ => by
   cases x
   exact ⟨[],trivial,fun a m => absurd m (by simp)⟩
 | .list ds,_,x,p,z => by
   obtain ⟨a,vs,rfl,ho,hall⟩:=FW x
   have z2 : WData.weightAll ds ≤ 1048576:=z
   obtain ⟨A,h1,h2⟩:=sJ ds _ hall p fun d hd => Nat.le_trans (tX hd) z2
   have k : ∀ b ∈ A,b ∈ a :: A:=fun b hb => List.mem_cons_of_mem _ hb
   refine ⟨a :: A,List.mem_cons_self ..,fun b hb => ?_⟩
   rcases List.mem_cons.mp hb with e | m
   ·rw [e]
    exact ⟨vs,Lv (by rw [oK hall]; exact Nat.le_trans (PySem.W.length_le_weightAllW ds) z2),fun u hu => (h1 u hu).mono k,.inl ho⟩
   ·exact (h2 b m).mono k
 | .tuple ds,_,x,p,z => by
   obtain ⟨a,vs,rfl,ho,hall⟩:=FV x
   have z2 : WData.weightAll ds ≤ 1048576:=z
   obtain ⟨A,h1,h2⟩:=sJ ds _ hall p fun d hd => Nat.le_trans (tX hd) z2
   have k : ∀ b ∈ A,b ∈ a :: A:=fun b hb => List.mem_cons_of_mem _ hb
   refine ⟨a :: A,List.mem_cons_self ..,fun b hb => ?_⟩
   rcases List.mem_cons.mp hb with e | m
   ·rw [e]
    exact ⟨vs,Lv (by rw [oK hall]; exact Nat.le_trans (PySem.W.length_le_weightAllW ds) z2),fun u hu => (h1 u hu).mono k,.inr ho⟩
   ·exact (h2 b m).mono k
 | .float _,_,_,p,_ => Bool.noConfusion (show false = true from p)
 | .dict _,_,_,p,_ => Bool.noConfusion (show false = true from p)
 | .bytearray _,_,_,p,_ => Bool.noConfusion (show false = true from p)
 | .set _,_,_,p,_ => Bool.noConfusion (show false = true from p)
 | .frozenset _,_,_,p,_ => Bool.noConfusion (show false = true from p)
 | .obj _ _,_,_,p,_ => Bool.noConfusion (show false = true from p)
theorem sJ : ∀ (ds : List WData) (vs : List Value),WellAll P h vs ds → eO ds = true → (∀ d ∈ ds,d.weight ≤ 1048576) → ∃ A : List Addr,(∀ u ∈ vs,eI A u) ∧ ∀ a ∈ A,eZ h A a
 | [],_,x,_,_ => by
   cases x
   exact ⟨[],fun u m => absurd m (by simp),fun a m => absurd m (by simp)⟩
 | d :: ds,_,x,p,z => by
   obtain ⟨v,vs,rfl,x1,x2⟩:=FX x
   have q : dS d = true ∧ eO ds = true:=Bool.and_eq_true_iff.mp p
   obtain ⟨A,a1,a2⟩:=aeO d v x1 q.1 (z d (List.mem_cons_self ..))
   obtain ⟨B,b1,b2⟩:=sJ ds vs x2 q.2 fun e he => z e (List.mem_cons_of_mem _ he)
   have kA : ∀ b ∈ A,b ∈ A ++ B:=fun b hb => List.mem_append.mpr (.inl hb)
   have kB : ∀ b ∈ B,b ∈ A ++ B:=fun b hb => List.mem_append.mpr (.inr hb)
   refine ⟨A ++ B,fun u hu => ?_,fun b hb => ?_⟩
   ·rcases List.mem_cons.mp hu with e | m
    ·rw [e]
     exact a1.mono kA
    ·exact (b1 u m).mono kB
   ·rcases List.mem_append.mp hb with m | m
    ·exact (a2 b m).mono kA
    ·exact (b2 b m).mono kB
end
end
def qt (o : Obj) : Option HO:=match o.data with
 | .seq vs _ => if (o.cls == Value.type "list") = true then some (.a7 o (.lst (vs.toList.map toV))) else some (.a7 o (.tup (vs.toList.map toV)))
 | _ => none
def c8 (K : PySem.W.Frag) (h : Heap) (A : List Addr) : Hp:=fun b => if b ∈ A then (if (K.lookup b).isNone = true then (h.get? b).bind qt else none) else none
def oy (H : Hp) : Prop:=∀ b,H b = none ∨ ∃ o u,H b = some (.a7 o u)
theorem MS (vs : List Value) : qt { cls:=.type "list",data:=.seq vs.toArray } = some (.a7 { cls:=.type "list",data:=.seq vs.toArray } (.lst (vs.map toV))):=by
 show (if (Value.type "list" == Value.type "list") = true then some (HO.a7 { cls:=.type "list",data:=.seq vs.toArray } (.lst (vs.toArray.toList.map toV))) else some (HO.a7 { cls:=.type "list",data:=.seq vs.toArray } (.tup (vs.toArray.toList.map toV)))) = _
 rw [if_pos (beq_self_eq_true _)]
theorem MR (vs : List Value) : qt { cls:=.type "tuple",data:=.seq vs.toArray } = some (.a7 { cls:=.type "tuple",data:=.seq vs.toArray } (.tup (vs.map toV))):=by
 show (if (Value.type "tuple" == Value.type "list") = true then some (HO.a7 { cls:=.type "tuple",data:=.seq vs.toArray } (.lst (vs.toArray.toList.map toV))) else some (HO.a7 { cls:=.type "tuple",data:=.seq vs.toArray } (.tup (vs.toArray.toList.map toV)))) = _
 rw [if_neg (by decide)]
section
variable {P : Program} {w : World} {K : PySem.W.Frag} {h : Heap} {A : List Addr}
theorem sI {b : Addr} {o : Obj} (hb : b ∈ A) (hk : K.lookup b = none) (e : h.get? b = some o) : c8 K h A b = qt o:=by
 unfold c8
 rw [if_pos hb,hk,if_pos (show (none : Option Obj).isNone = true from rfl),e] <;> rfl
theorem Yu {b : Addr} {u : HO} (q : c8 K h A b = some u) : b ∈ A ∧ K.lookup b = none:=by
 unfold c8 at q
 by_cases hb : b ∈ A
 ·rw [if_pos hb] at q
  cases hk : K.lookup b with
  | none => exact ⟨hb,rfl⟩
  | some o =>
    rw [hk,if_neg (by simp)] at q
    cases q
 ·rw [if_neg hb] at q
  cases q
theorem sG (ar : ∀ a ∈ A,eZ h A a) {b : Addr} {u : HO} (q : c8 K h A b = some u) : K.lookup b = none ∧ ∃ vs : List Value,vs.length ≤ sizeLine ∧ (∀ u ∈ vs,eI A u) ∧
 ((h.get? b = some { cls:=.type "list",data:=.seq vs.toArray } ∧ u = .a7 { cls:=.type "list",data:=.seq vs.toArray } (.lst (vs.map toV))) ∨
  (h.get? b = some { cls:=.type "tuple",data:=.seq vs.toArray } ∧ u = .a7 { cls:=.type "tuple",data:=.seq vs.toArray } (.tup (vs.map toV)))):=by
 obtain ⟨hb,hk⟩:=Yu q
 obtain ⟨vs,h1,h2,h3⟩:=ar b hb
 refine ⟨hk,vs,h1,h2,?_⟩
 rcases h3 with e | e
 ·rw [sI hb hk e,MS] at q
  exact .inl ⟨e,(Option.some.inj q).symm⟩
 ·rw [sI hb hk e,MR] at q
  exact .inr ⟨e,(Option.some.inj q).symm⟩
theorem aeM (ar : ∀ a ∈ A,eZ h A a) : oy (c8 K h A):=fun b => by
 cases q : c8 K h A b with
 | none => exact .inl rfl
 | some u =>
   obtain ⟨_,vs,_,_,⟨_,e⟩ | ⟨_,e⟩⟩:=sG ar q
   ·exact .inr ⟨_,_,by rw [e]⟩
   ·exact .inr ⟨_,_,by rw [e]⟩
theorem aeN (ar : ∀ a ∈ A,eZ h A a) : bT P w (c8 K h A) h:=fun b u q => by
 obtain ⟨_,vs,h1,h2,⟨e,rfl⟩ | ⟨e,rfl⟩⟩:=sG ar q
 ·exact ⟨e,by rw [List.length_map]; exact h1,vs,_,lS h2,e⟩
 ·exact ⟨e,by rw [List.length_map]; exact h1,vs,lS h2,_,e,rfl,_,rfl⟩
theorem o4 {c c' : Value} {vs us : List Value} (e : (some { cls:=c,data:=.seq vs.toArray } : Option Obj) = some { cls:=c',data:=.seq us.toArray }) : c = c' ∧ vs = us:=by
 have e1:=Option.some.inj e
 have e2 : c = c':=congrArg Obj.cls e1
 have e3 : Data.seq vs.toArray = Data.seq us.toArray:=congrArg Obj.data e1
 injection e3 with e4
 refine ⟨e2,?_⟩
 have e5:=congrArg Array.toList e4
 simpa using e5
theorem aeL (KX : K.In h) (ar : ∀ a ∈ A,eZ h A a) {a : Addr} {vs : List Value} (ha : a ∈ A) (e : h.get? a = some { cls:=.type "list",data:=.seq vs.toArray }) : (∀ u ∈ vs,eI A u) ∧ az K (c8 K h A) a (vs.map toV):=by
 obtain ⟨us,h1,h2,h3⟩:=ar a ha
 have hu : us = vs:=by
  rcases h3 with q | q
  ·rw [e] at q
   exact (o4 q).2.symm
  ·rw [e] at q
   exact absurd (Value.type.inj (o4 q).1) (by decide)
 subst hu
 refine ⟨h2,?_⟩
 cases hk : K.lookup a with
 | none => exact .inl (.inr ⟨_,by rw [sI ha hk e,MS]⟩)
 | some o =>
   have e2:=KX a o hk
   rw [e] at e2
   obtain rfl:=Option.some.inj e2
   exact .inr ⟨_,us.toArray,_,hk,rfl,rfl,rfl,by rw [List.size_toArray]; exact h1,by simpa using lS h2⟩
theorem aeK (KX : K.In h) (ar : ∀ a ∈ A,eZ h A a) {a : Addr} {vs : List Value} (ha : a ∈ A) (e : h.get? a = some { cls:=.type "tuple",data:=.seq vs.toArray }) : (∀ u ∈ vs,eI A u) ∧ a4 K (c8 K h A) a (vs.map toV):=by
 obtain ⟨us,h1,h2,h3⟩:=ar a ha
 have hu : us = vs:=by
  rcases h3 with q | q
  ·rw [e] at q
   exact absurd (Value.type.inj (o4 q).1) (by decide)
  ·rw [e] at q
   exact (o4 q).2.symm
 subst hu
 refine ⟨h2,?_⟩
 cases hk : K.lookup a with
 | none => exact .inl (.inr ⟨_,by rw [sI ha hk e,MR]⟩)
 | some o =>
   have e2:=KX a o hk
   rw [e] at e2
   obtain rfl:=Option.some.inj e2
   exact .inr ⟨_,us.toArray,_,hk,rfl,rfl,by rw [List.size_toArray]; exact h1,by simpa using lS h2⟩
mutual
theorem ade {Pm : Params} (KX : K.In h) (ar : ∀ a ∈ A,eZ h A a) : ∀ (d : WData) (v : Value),Well Pm h v d → dS d = true → eI A v → Dw K (c8 K h A) (toV v) d
 | .none,_,x,_,_ => by
   cases x
   exact .aC
 | .bool b,_,x,_,_ => by
   cases x
   exact .bl b
 | .int i,_,x,_,_ => by
   cases x
   exact .int i
 | .str s,_,x,_,_ => by
   cases x
   exact .str s
 | .bytes b,_,x,_,_ => by
   cases x
   have z:=Dw.dF (K:=K) (H:=c8 K h A) b.toArray
   exact z
 | .list ds,_,x,p,hu => by
   obtain ⟨a,vs,rfl,ho,hall⟩:=FW x
   obtain ⟨h2,hs⟩:=aeL KX ar hu ho
   exact .lst hs (qA KX ar ds _ hall p h2)
 | .tuple ds,_,x,p,hu => by
   obtain ⟨a,vs,rfl,ho,hall⟩:=FV x
   obtain ⟨h2,hs⟩:=aeK KX ar hu ho
   exact .tup hs (qA KX ar ds _ hall p h2)
 | .float _,_,_,p,_ => Bool.noConfusion (show false = true from p)
 | .dict _,_,_,p,_ => Bool.noConfusion (show false = true from p)
 | .bytearray _,_,_,p,_ => Bool.noConfusion (show false = true from p)
 | .set _,_,_,p,_ => Bool.noConfusion (show false = true from p)
 | .frozenset _,_,_,p,_ => Bool.noConfusion (show false = true from p)
 | .obj _ _,_,_,p,_ => Bool.noConfusion (show false = true from p)
theorem qA {Pm : Params} (KX : K.In h) (ar : ∀ a ∈ A,eZ h A a) : ∀ (ds : List WData) (vs : List Value),WellAll Pm h vs ds → eO ds = true → (∀ u ∈ vs,eI A u) → eY K (c8 K h A) (vs.map toV) ds
 | [],_,x,_,_ => by
   cases x
   exact .nil
 | d :: ds,_,x,p,hu => by
   obtain ⟨v,vs,rfl,x1,x2⟩:=FX x
   have q : dS d = true ∧ eO ds = true:=Bool.and_eq_true_iff.mp p
   exact .cons (ade KX ar d v x1 q.1 (hu _ (List.mem_cons_self ..))) (qA KX ar ds vs x2 q.2 fun u m => hu u (List.mem_cons_of_mem _ m))
end
end
theorem Ui {P : Program} {w : World} {K : PySem.W.Frag} {mg mb : Str → Option Value} {CX : eJ} {k : Nat} {fa : Addr} {fd : FuncData} {ps : List Str} {sp : Sp} {s₁ : Shared} {vals : List Value} {ds : List WData} {R : PySem.W.WRecords} {cl : Str → Option Addr} {d0 : WData}
 (KX : K.In s₁.heap) (hns : s₁.heap.Ns mainGlobals mg) (hb : s₁.heap.Ns builtinsNs mb) (hbb : ∀ x : Str,x ≠ "__name__" → mb x = bootBuiltins x) (hlim : s₁.heap.NoLimit) (hg : s₁.gens = #[])
 (hwl : WellAll w.params s₁.heap vals ds) (hpl : eO ds = true) (hwt : ∀ d ∈ ds,d.weight ≤ 1048576) (hr : aq k callerA)
 (F : ∀ base : Heap,K.In base → base.Ns mainGlobals mg → aE P w K mg base CX k fa fd ps sp) (hbind : ∀ (s : Shared) (us : List Value),us.length = ps.length → BindsTo s fd ⟨us,[]⟩ (ps.zip us)) (hlen : ds.length = ps.length)
 (hsp : ∀ (H : Hp) (xs : List V),oy H → eY K H xs ds → sp xs H (fun v H' => Dw K H' v d0) fun _ _ _ => False)
 (hCX : ∀ H e s',CX [] H s₁ (fun _ _ _ => False) e s' → False) :
 codeAny (model P w) callerA (.call (.ref fa) ⟨vals,[]⟩) (fun r s' => ∃ u as,r = .ok (.ret u) ∧ ReadsW R cl s'.heap u d0 as ∧ OldK s₁.heap s'.heap ∧ s'.os = s₁.os ∧ AllBare s'.gens) s₁:=by
 obtain ⟨A,ho,ar⟩:=sJ ds vals hwl hpl hwt
 have hO : oy (c8 K s₁.heap A):=aeM ar
 have ax : bT P w (c8 K s₁.heap A) s₁.heap:=aeN ar
 have hS:=qA KX ar ds vals hwl hpl ho
 have hV:=lS ho
 have hK : ∀ b u,c8 K s₁.heap A b = some u → K.lookup b = none:=fun b u q => (sG ar q).1
 have noA : ∀ {b : Addr} {o : Obj} {es : Array DictEntry} {ep : Nat},s₁.heap.get? b = some o → o.data = .dict es ep → c8 K s₁.heap A b = none:=fun {b o es ep} e d => by
  cases q : c8 K s₁.heap A b with
  | none => rfl
  | some u =>
    obtain ⟨_,vs,_,_,⟨e2,_⟩ | ⟨e2,_⟩⟩:=sG ar q
    ·rw [e2] at e
     cases e
     have d' : Data.seq vs.toArray _ = Data.dict es ep:=d
     cases d'
    ·rw [e2] at e
     cases e
     have d' : Data.seq vs.toArray _ = Data.dict es ep:=d
     cases d'
 generalize c8 K s₁.heap A = H at hO ax hS hK noA
 have base_of : ∀ {b : Addr} {o : Obj},s₁.heap.get? b = some o → H b = none → (jP s₁.heap H).get? b = some o:=fun e n => acj e n
 have nsK : ∀ {b : Addr} {m : Str → Option Value},s₁.heap.Ns b m → (jP s₁.heap H).Ns b m:=fun {b m} ⟨o,es,ep,e,d,r⟩ => ⟨o,es,ep,base_of e (noA e d),d,r⟩
 have nK : ∀ b o,K.lookup b = some o → H b = none:=fun b o e => by
  cases q : H b with
  | none => rfl
  | some u =>
    rw [hK b u q] at e
    cases e
 have hKb : K.In (jP s₁.heap H):=fun b o e => base_of (KX b o e) (nK b o e)
 have hM : Mod K mg (jP s₁.heap H):=⟨hKb,nsK hns,⟨mb,nsK hb,hbb⟩,let ⟨mc,h1,h2⟩:=hlim; ⟨mc,nsK h1,h2⟩⟩
 have e0 : lP P w K mg (jP s₁.heap H) callerA [] s₁ H:=⟨rfl,hM,fun b o e => Yt e,Nat.le_of_eq (aci _ _),trivial,fun b hb => absurd (show b ∈ ([] : List Addr) from hb) (by simp),ax,.of_eq hg⟩
 have hl : vals.length = ps.length:=by rw [oK hwl]; exact hlen
 refine codeAny_mono ((F _ hKb (nsK hns)).run callerA [] s₁ H ⟨vals,[]⟩ vals (vals.map toV) _ _ hr e0 (hbind s₁ vals hl) hV (hsp H _ hO hS)) fun r s' x => ?_
 cases r with
 | error e => exact (hCX H e s' x).elim
 | ok fl =>
   cases fl with
   | next => exact False.elim x
   | brk => exact False.elim x
   | cont => exact False.elim x
   | ret u =>
     obtain ⟨v,H',os,bare,un,hok',r',q⟩:=x
     have kept : ∀ b o,s₁.heap.get? b = some o → s'.heap.get? b = some o:=fun b o e => by
      cases q2 : H b with
      | none => exact un.keep b o e q2 (by intro z; exact absurd (show b ∈ ([] : List Addr) from z) (by simp)) (by simp)
      | some u2 =>
        rcases hO b with z | ⟨ob,u3,z⟩
        ·rw [q2] at z
         cases z
        ·have z2:=un.fD b ob _ z
         obtain ⟨e1,_⟩:=ax b _ z
         obtain ⟨e2,_⟩:=hok' b _ z2
         rw [e] at e1
         cases e1
         exact e2
     have KX' : K.In s'.heap:=fun b o e => kept b o (KX b o e)
     obtain ⟨as,hrd⟩:=Dw.reads (R:=R) (cl:=cl) hok' KX' d0 v u q r'
     exact ⟨u,as,rfl,hrd,OldK.of_keep kept,os,bare⟩
theorem abm {ds : List WData} (h : WData.layableAll ds = true) : ∀ d ∈ ds,d.weight ≤ 1048576:=fun d hd =>
 (PySem.W.layableW_iff.mp (List.all_eq_true.mp h d hd)).2.2
theorem NC : ∀ (cs : List Codec) (a : Codec.denoteAll cs),(Codec.encAll cs a).length = cs.length
 | [],_ => rfl
 | c :: cs,a => by
   show (Codec.encAll cs a.2).length + 1 = cs.length + 1
   rw [NC cs a.2]
theorem SO {r : OpenSpec} {k : Nat} {q : Program} {loose : List Str} {XP : (Str → Option Value) → Heap → Prop} {YP : World → Heap → Prop} {d : DefRec} {K : Params → PySem.W.Frag} {CX : World → eJ} {ps : List Str} {sp : World → Sp}
 (hwell : r.wellSaid = true) (hdf : d.params.defaults = []) (hlen : r.args.length = ps.length) (hr : aq k callerA)
 (hY : ∀ (w : World) (h : Heap),YP w h → (K w.params).In h)
 (F : ∀ (w : World) (mg : Str → Option Value) (fa : Addr) (h : Heap),YP w h → (K w.params).In h → h.Ns mainGlobals mg → mg d.name = some (.ref fa) →
  ∃ fd : FuncData,(∀ (s : Shared) (us : List Value),us.length = ps.length → BindsTo s fd ⟨us,[]⟩ (ps.zip us)) ∧
   ∀ base : Heap,(K w.params).In base → base.Ns mainGlobals mg → aE r.prog w (K w.params) mg base (CX w) k fa fd ps (sp w))
 (hsp : ∀ (w : World) (H : Hp) (xs : List V) (a : Codec.denoteAll r.args),oy H → Codec.withinAll r.args a = true → Codec.app r.args r.asked a = true → eY (K w.params) H xs (Codec.encAll r.args a) →
  sp w xs H (fun v H' => Dw (K w.params) H' v (r.ret.enc (Codec.app r.args r.f a))) fun _ _ _ => False)
 (hCX : ∀ (w : World) (H : Hp) (s : Shared) (e : Value) (s' : Shared),CX w [] H s (fun _ _ _ => False) e s' → False) :
 PySem.W.WalkOS q loose XP YP r d [] (fun f vs => PySem.call f vs):=by
 intro w cV s₁ mg mb G Y fa o pm cd doc dV kV ho hd hcd hD hmg hg args vals as hpre hlay hrd hwl hlo
 obtain ⟨a,e1,e2⟩:=PySem.W.os_pre_some hpre
 obtain ⟨e3,hwi⟩:=Codec.encAll_of_decAll r.args args a e1
 subst e3
 have KX:=hY w _ Y
 obtain ⟨fd,hb,hF⟩:=F w mg fa _ Y KX G.T.g hmg
 refine PySem.W.enter_call (codeAny_mono (Ui (R:=[]) (cl:=classAt cV.heap) (d0:=r.ret.enc (Codec.app r.args r.f a)) KX G.T.g G.T.b G.T.builtins G.T.nolimit hg hwl (J9 _ _) (abm hlay) hr hF hb (by rw [NC]; exact hlen)
  (fun H xs hO hS => hsp w H xs a hO hwi e2 hS) fun H e s' => hCX w H s₁ e s') fun r' s' hq => ?_)
 obtain ⟨u,as',rfl,h1,h2,h3,h4⟩:=hq
 exact ⟨.inl ⟨u,_,as',rfl,fun _ => rfl,h1,(OpenSpec.post_iff hwell hwi _ _).mpr rfl,fun z => Bool.noConfusion (show false = true from z)⟩,h2,h3,h4⟩
theorem SN {r : OpenSpec} {k : Nat} {q : Program} {loose : List Str} {XP : (Str → Option Value) → Heap → Prop} {YP : World → Heap → Prop} {d : DefRec} {K : Params → PySem.W.Frag} {CX : eJ} {ps : List Str} {sp : PySem.W.Frag → Sp}
 (hwell : r.wellSaid = true) (hdf : d.params.defaults = []) (hlen : r.args.length = ps.length) (hr : aq k callerA)
 (hY : ∀ (w : World) (h : Heap),YP w h → (K w.params).In h)
 (F : ∀ (w : World) (mg : Str → Option Value) (fa : Addr) (h : Heap),YP w h → (K w.params).In h → h.Ns mainGlobals mg → mg d.name = some (.ref fa) →
  ∃ fd : FuncData,(∀ (s : Shared) (us : List Value),us.length = ps.length → BindsTo s fd ⟨us,[]⟩ (ps.zip us)) ∧
   ∀ base : Heap,(K w.params).In base → base.Ns mainGlobals mg → aE r.prog w (K w.params) mg base CX k fa fd ps (sp (K w.params)))
 (hsp : ∀ (K : PySem.W.Frag) (H : Hp) (xs : List V) (a : Codec.denoteAll r.args),oy H → Codec.withinAll r.args a = true → Codec.app r.args r.asked a = true → eY K H xs (Codec.encAll r.args a) →
  sp K xs H (fun v H' => Dw K H' v (r.ret.enc (Codec.app r.args r.f a))) fun _ _ _ => False)
 (hCX : ∀ (H : Hp) (s : Shared) (e : Value) (s' : Shared),CX [] H s (fun _ _ _ => False) e s' → False) :
 PySem.W.WalkOS q loose XP YP r d [] (fun f vs => PySem.call f vs) :=
 SO (K:=K) (CX:=fun _ => CX) (sp:=fun w => sp (K w.params)) hwell hdf hlen hr hY F (fun w H xs a h1 h2 h3 h4 => hsp (K w.params) H xs a h1 h2 h3 h4) fun _ H s e s' => hCX H s e s'
end L2
end
end
section
namespace ShV
open PySem
section
variable {prog : Program} {w : World} {A : Around} {E : Value → Shared → Prop} {s : Shared} {d : Addr} {od : Obj} {es : Array DictEntry} {ep : Nat}
structure Ent (h : Heap) (d : Addr) (od : Obj) (es : Array DictEntry) (ep : Nat) : Prop where
 at_ : h.get? d = some od
 ex : od.ExactDict
 dat : od.data = .dict es ep
theorem Ent.ty (D : Ent s.heap d od es ep) : s.TypeIs (.ref d) "dict":=⟨od,D.at_,D.ex.1⟩
theorem Ent.up {h h' : Heap} (D : Ent h d od es ep) (k : ∀ o,h.get? d = some o → h'.get? d = some o) : Ent h' d od es ep:=⟨k _ D.at_,D.ex,D.dat⟩
abbrev ig (T : String) (d : Addr) : Obj:={ cls:=.type T,data:=.fields #[.ref d] }
theorem K9 (d : Addr) (nd : (d == sysModules) = false) : MeetsIn prog w (Builtin.«dict.values» ⟨[.ref d],[]⟩) (fun _ R s => (∃ od es ep,Ent s.heap d od es ep) ∧
 R (.ok (.ret (.ref s.heap.objs.size))) { s with heap:=s.heap.push (ig "dict_values" d) }):=.of_wp fun A R s ⟨⟨od,es,ep,D⟩,q⟩ => by
 refine wpAny_bind ?_
 unfold Builtin.Dict.noArgs
 refine wpAny_bind (wpAny_notOrdered_dict D.ty ?_)
 show wpAny _ _ (pure d) _ _ s
 refine wpAny_pure ?_
 show wpAny _ _ (Builtin.Dict.showsAll d >>= _) _ _ s
 unfold Builtin.Dict.showsAll
 rw [if_neg (show ¬ ((d == sysModules) = true) by rw [nd]; decide)]
 exact wpAny_bind (wpAny_pure (wpAny_bind (wpAny_newObj_type (wpAny_pure ⟨_,rfl,q⟩))))
theorem aa6 (d : Addr) (nd : (d == sysModules) = false) : MeetsIn prog w (Builtin.«dict.items» ⟨[.ref d],[]⟩) (fun _ R s => (∃ od es ep,Ent s.heap d od es ep) ∧
 R (.ok (.ret (.ref s.heap.objs.size))) { s with heap:=s.heap.push (ig "dict_items" d) }):=.of_wp fun A R s ⟨⟨od,es,ep,D⟩,q⟩ => by
 unfold Builtin.«dict.items»
 refine wpAny_bind ?_
 unfold Builtin.Dict.noArgs
 refine wpAny_bind (wpAny_notOrdered_dict D.ty ?_)
 show wpAny _ _ (pure d) _ _ s
 refine wpAny_pure ?_
 show wpAny _ _ (Builtin.Dict.showsAll d >>= _) _ _ s
 unfold Builtin.Dict.showsAll
 rw [if_neg (show ¬ ((d == sysModules) = true) by rw [nd]; decide)]
 exact wpAny_bind (wpAny_pure (wpAny_bind (wpAny_newObj_type (wpAny_pure ⟨_,rfl,q⟩))))
abbrev lR (d : Addr) (i n ep : Nat) : Obj:={ cls:=.type "dict_valueiterator",data:=.fields #[.ref d,.int i 0,.int n 0,.int ep 0] }
theorem MM {v : Addr} {Q : Value → Shared → Prop} (hv : s.heap.IsValuesView v d) (D : Ent s.heap d od es ep) (q : Q (.ref s.heap.objs.size) { s with heap:=s.heap.push (lR d 0 es.size ep) }) :
 wpAny (model prog w) A (pyIter (.ref v)) Q E s:=by
 obtain ⟨vo,e1,e2,e3⟩:=id hv
 refine wpAny_pyIter_slot hv.typeIs F.slot_dict_values_iter (wpAny_call_entry F.slot_dict_values_iter hv.typeIs F.entry_dict_values_iter ?_ (F.args_dict_values_iter_1 _))
 unfold Builtin.«dict_values.__iter__»
 refine wpAny_bind (wpAny_pure (wpAny_bind ?_))
 unfold Builtin.Dict_items.dictOf
 refine wpAny_bind (wpAny_field e1 e3 (x:=.ref d) rfl (wpAny_pure (wpAny_bind ?_)))
 unfold Builtin.Dict_items.newIterator
 refine wpAny_bind (wpAny_dictEntries D.at_ D.dat (wpAny_bind (wpAny_dictEpoch D.at_ D.dat ?_)))
 simp only [show Builtin.Dict_items.ownsTuple "dict_valueiterator" = false by decide,Bool.false_eq_true,if_false]
 refine wpAny_newObj_type (wpAny_pure ⟨_,rfl,"dict_valueiterator",_,⟨_,Heap.get?_push_size _ rfl,rfl⟩,F.slot_dict_valueiterator_next.lookup,?_⟩)
 simpa [rawInt,lR] using q
theorem KZ {it : Addr} {i : Nat} {en : DictEntry} {Q : Option Value → Shared → Prop} (hi : s.heap.IsValIter it d i es.size ep) (D : Ent s.heap d od es ep) (hx : es[i]? = some en)
 (q : ∀ h',h'.IsValIter it d (i + 1) es.size ep → Heap.SameBut it s.heap h' → Q (some en.val) { s with heap:=h' }) : wpAny (model prog w) A (pyNext (.ref it)) Q E s:=by
 obtain ⟨io,e1,e2,e3⟩:=id hi
 unfold pyNext
 refine wpAny_bind (wpAny_attempt (wpAny_callSpecial?_slot (name:=Str.ofString "__next__") hi.typeIs F.slot_dict_valueiterator_next (wpAny_call_entry F.slot_dict_valueiterator_next hi.typeIs F.entry_dict_valueiterator_next ?_ (F.args_dict_valueiterator_next_1 _))))
 refine wpAny_bind (wpAny_pure (wpAny_bind (wpAny_bind ?_)))
 first | refine wpAny_bind (wpAny_typeNameOfWhole_valiter hi.typeIs (wpAny_pure (wpAny_bind (wpAny_fieldsOf e1 e3 ?_)))) | refine wpAny_bind (wpAny_typeNameOf_valiter hi.typeIs (wpAny_pure (wpAny_bind (wpAny_fieldsOf e1 e3 ?_))))
 simp only [show Builtin.Dict_items.ownsTuple "dict_valueiterator" = false by decide,Bool.false_eq_true,if_false]
 show wpAny _ _ (if (Value.ref d == Value.none) = true then _ else _) _ _ s
 rw [if_neg (show ¬ ((Value.ref d == Value.none) = true) by exact Bool.false_ne_true)]
 refine wpAny_bind (wpAny_pure (wpAny_bind (wpAny_dictEntries D.at_ D.dat ?_)))
 rw [if_neg (by simp)]
 refine wpAny_bind (wpAny_pure (wpAny_bind (wpAny_dictEpoch D.at_ D.dat ?_)))
 rw [if_neg (by simp)]
 refine wpAny_pure ?_
 obtain ⟨lt,een⟩:=Array.getElem?_eq_some_iff.mp hx
 simp only [show ¬ ((i : Int) < 0) by omega,if_false,Int.toNat_natCast,Array.getElem?_eq_getElem lt]
 refine wpAny_bind ?_
 first | refine wpAny_bind (wpAny_typeNameOfWhole_valiter hi.typeIs (wpAny_pure (wpAny_bind (wpAny_isOneOf_valiter hi.typeIs ?_)))) | refine wpAny_bind (wpAny_typeNameOf_valiter hi.typeIs (wpAny_pure (wpAny_bind (wpAny_isOneOf_valiter hi.typeIs ?_))))
 show wpAny _ _ (setField (.ref it) 1 (rawInt ((i : Int) + 1)) >>= _) _ _ s
 refine wpAny_bind (wpAny_setField e1 e3 (by simp) ?_)
 have hn : (s.heap.update it (Obj.mapFields (·.setIfInBounds 1 (rawInt ((i : Int) + 1))))).IsValIter it d (i + 1) es.size ep :=
  ⟨_,Heap.get?_update_self _ e1 (Obj.isFreed_of_fields (Obj.data_mapFields e3 _)),(Obj.cls_mapFields ..).trans e2,by rw [Obj.data_mapFields e3]; simp [rawInt]⟩
 refine wpAny_bind (wpAny_holding (wpAny_bind (wpAny_isOneOf_valiter (s:={ s with heap:=s.heap.update it (Obj.mapFields (·.setIfInBounds 1 (rawInt ((i : Int) + 1)))) }) hn.typeIs (wpAny_bind (wpAny_isOneOf_valiter (s:={ s with heap:=s.heap.update it (Obj.mapFields (·.setIfInBounds 1 (rawInt ((i : Int) + 1)))) }) hn.typeIs ?_)))))
 show wpAny _ _ (pure es[i].val) _ _ _
 rw [een]
 exact wpAny_pure (wpAny_pure ⟨_,rfl,wpAny_pure (q _ hn (Heap.SameBut.update ..))⟩)
theorem NB {it : Addr} {i : Nat} {Q : Option Value → Shared → Prop} (hh : A.handled = none) (hi : s.heap.IsValIter it d i es.size ep) (D : Ent s.heap d od es ep) (hge : es.size ≤ i)
 (q : ∀ h',Heap.ExtBut it s.heap h' → Q none { s with heap:=h' }) : wpAny (model prog w) A (pyNext (.ref it)) Q E s:=by
 obtain ⟨io,e1,e2,e3⟩:=id hi
 unfold pyNext
 refine wpAny_bind (wpAny_attempt (wpAny_callSpecial?_slot (name:=Str.ofString "__next__") hi.typeIs F.slot_dict_valueiterator_next (wpAny_call_entry F.slot_dict_valueiterator_next hi.typeIs F.entry_dict_valueiterator_next ?_ (F.args_dict_valueiterator_next_1 _))))
 refine wpAny_bind (wpAny_pure (wpAny_bind (wpAny_bind ?_)))
 first | refine wpAny_bind (wpAny_typeNameOfWhole_valiter hi.typeIs (wpAny_pure (wpAny_bind (wpAny_fieldsOf e1 e3 ?_)))) | refine wpAny_bind (wpAny_typeNameOf_valiter hi.typeIs (wpAny_pure (wpAny_bind (wpAny_fieldsOf e1 e3 ?_))))
 simp only [show Builtin.Dict_items.ownsTuple "dict_valueiterator" = false by decide,Bool.false_eq_true,if_false]
 show wpAny _ _ (if (Value.ref d == Value.none) = true then _ else _) _ _ s
 rw [if_neg (show ¬ ((Value.ref d == Value.none) = true) by exact Bool.false_ne_true)]
 refine wpAny_bind (wpAny_pure (wpAny_bind (wpAny_dictEntries D.at_ D.dat ?_)))
 rw [if_neg (by simp)]
 refine wpAny_bind (wpAny_pure (wpAny_bind (wpAny_dictEpoch D.at_ D.dat ?_)))
 rw [if_neg (by simp)]
 refine wpAny_pure ?_
 simp only [show ¬ ((i : Int) < 0) by omega,if_false,Int.toNat_natCast,Array.getElem?_eq_none hge]
 refine wpAny_bind ?_
 first | refine wpAny_bind (wpAny_typeNameOfWhole_valiter hi.typeIs (wpAny_pure ?_)) | refine wpAny_bind (wpAny_typeNameOf_valiter hi.typeIs (wpAny_pure ?_))
 show wpAny _ _ (setField (.ref it) 0 .none >>= _) _ _ s
 refine wpAny_bind (wpAny_setField e1 e3 (by simp) ?_)
 show wpAny _ _ (newExc (.type "StopIteration") [] >>= _) _ _ _
 refine wpAny_bind ?_
 simp only [newExc,newTuple]
 refine wpAny_bind (wpAny_newObj_type ?_ (by size_fits))
 refine wpAny_bind (m:=firstArgMember _ _) (wpAny_of_eq (a:=Value.none) (by first | rfl | (simp only [firstArgMember]; rfl)) (wpAny_newObj_type ?_ (by size_fits)))
 simp only [raiseNew]
 refine wpAny_bind (wpAny_handled ?_)
 rw [show A.in1.handled = none from hh]
 refine wpAny_bind (wpAny_pure (wpAny_throw ?_))
 exact wpAny_bind (wpAny_isInstance (T:="StopIteration") (b:=true) ⟨_,Heap.get?_push_size _ rfl,rfl⟩ isSubtype_stop (wpAny_pure (q _ (((Heap.SameBut.update ..).extBut.push _).push _))))
abbrev MQ (d : Addr) (i n ep : Nat) (ok ov : Value) : Obj:={ cls:=.type "dict_itemiterator",data:=.fields #[.none,.bool false,.ref d,.int i 0,.int n 0,.int ep 0,ok,ov] }
theorem abx {v : Addr} {Q : Value → Shared → Prop} (hv : s.heap.IsItemsView v d) (D : Ent s.heap d od es ep) (q : Q (.ref s.heap.objs.size) { s with heap:=s.heap.push (MQ d 0 es.size ep .none .none) }) :
 wpAny (model prog w) A (pyIter (.ref v)) Q E s:=by
 obtain ⟨vo,e1,e2,e3⟩:=id hv
 refine wpAny_pyIter_slot hv.typeIs F.slot_dict_items_iter (wpAny_call_entry F.slot_dict_items_iter hv.typeIs F.entry_dict_items_iter ?_ (F.args_dict_items_iter_1 _))
 unfold Builtin.«dict_items.__iter__»
 refine wpAny_bind (wpAny_pure (wpAny_bind ?_))
 unfold Builtin.Dict_items.dictOf
 refine wpAny_bind (wpAny_field e1 e3 (x:=.ref d) rfl (wpAny_pure (wpAny_bind ?_)))
 unfold Builtin.Dict_items.newIterator
 refine wpAny_bind (wpAny_dictEntries D.at_ D.dat (wpAny_bind (wpAny_dictEpoch D.at_ D.dat ?_)))
 simp only [show Builtin.Dict_items.ownsTuple "dict_itemiterator" = true by decide,if_true]
 refine wpAny_newObj_type (wpAny_pure ⟨_,rfl,"dict_itemiterator",_,⟨_,Heap.get?_push_size _ rfl,rfl⟩,F.slot_dict_itemiterator_next.lookup,?_⟩)
  (by simp only [sizeOk,Builtin.Dict_items.ownedTupleFields,List.size_toArray,List.length_append,List.length_cons,List.length_nil,sizeLine_eq]; omega)
 simpa [rawInt,MQ,Builtin.Dict_items.ownedTupleFields] using q
theorem aaT {it : Addr} {i : Nat} {ok ov : Value} {en : DictEntry} {Q : Option Value → Shared → Prop} (hi : IsItemIter s.heap it d i es.size ep ok ov) (D : Ent s.heap d od es ep) (hx : es[i]? = some en)
 (q : ∀ h',IsItemIterOut h' it d (i + 1) es.size ep en.key en.val s.heap.objs.size → h'.get? s.heap.objs.size = some { cls:=.type "tuple",data:=.seq #[en.key,en.val] } → h'.objs.size = s.heap.objs.size + 1 →
  (∀ b o,b ≠ it → s.heap.get? b = some o → h'.get? b = some o) → Q (some (.ref s.heap.objs.size)) { s with heap:=h' }) : wpAny (model prog w) A (pyNext (.ref it)) Q E s:=by
 obtain ⟨hp,g,dr,tk,os⟩:=s
 have hT : Shared.TypeIs ⟨hp,g,dr,tk,os⟩ (.ref it) "dict_itemiterator":=⟨_,hi,rfl⟩
 unfold pyNext
 refine wpAny_bind (wpAny_attempt (wpAny_callSpecial?_slot (name:=Str.ofString "__next__") hT F.slot_dict_itemiterator_next (wpAny_call_entry F.slot_dict_itemiterator_next hT F.entry_dict_itemiterator_next ?_ (F.args_dict_itemiterator_next_1 _))))
 refine wpAny_bind (wpAny_pure (wpAny_bind (wpAny_bind ?_)))
 first | refine wpAny_bind (wpAny_typeNameOfWhole_itemiter hT (wpAny_pure (wpAny_bind (wpAny_fieldsOf hi rfl ?_)))) | refine wpAny_bind (wpAny_typeNameOf_itemiter hT (wpAny_pure (wpAny_bind (wpAny_fieldsOf hi rfl ?_))))
 simp only [show Builtin.Dict_items.ownsTuple "dict_itemiterator" = true by decide,if_true]
 show wpAny _ _ (if (Value.ref d == Value.none) = true then _ else _) _ _ _
 rw [if_neg (show ¬ ((Value.ref d == Value.none) = true) by exact Bool.false_ne_true)]
 refine wpAny_bind (wpAny_pure (wpAny_bind (wpAny_dictEntries D.at_ D.dat ?_)))
 rw [if_neg (by simp)]
 refine wpAny_bind (wpAny_pure (wpAny_bind (wpAny_dictEpoch D.at_ D.dat ?_)))
 rw [if_neg (by simp)]
 refine wpAny_pure ?_
 obtain ⟨lt,een⟩:=Array.getElem?_eq_some_iff.mp hx
 simp only [show ¬ ((i : Int) < 0) by omega,if_false,Int.toNat_natCast,Array.getElem?_eq_getElem lt]
 refine wpAny_bind ?_
 first | refine wpAny_bind (wpAny_typeNameOfWhole_itemiter hT (wpAny_pure (wpAny_bind (wpAny_isOneOf_itemiter hT ?_)))) | refine wpAny_bind (wpAny_typeNameOf_itemiter hT (wpAny_pure (wpAny_bind (wpAny_isOneOf_itemiter hT ?_))))
 show wpAny _ _ (setField (.ref it) 3 (rawInt ((i : Int) + 1)) >>= _) _ _ ⟨hp,g,dr,tk,os⟩
 refine wpAny_bind (wpAny_setField_rec hi (by simp) fun h1 f1 k1 => ?_)
 replace k1 : Heap.SameBut it hp h1:=k1
 replace f1 : IsItemIter h1 it d (i + 1) es.size ep ok ov:=by
  have e : ((i + 1 : Nat) : Int) = (i : Int) + 1:=by omega
  unfold IsItemIter; rw [e]; simpa [rawInt] using f1
 have hT1 : Shared.TypeIs ⟨h1,g,dr,tk,os⟩ (.ref it) "dict_itemiterator":=⟨_,f1,rfl⟩
 refine wpAny_bind (wpAny_holding (wpAny_bind (wpAny_isOneOf_itemiter hT1 (wpAny_bind (wpAny_isOneOf_itemiter hT1 ?_)))))
 show wpAny _ _ (Builtin.Dict_items.pairFromOwner (.ref it) 6 es[i].key es[i].val) _ _ ⟨h1,g,dr,tk,os⟩
 rw [een]
 unfold Builtin.Dict_items.pairFromOwner
 refine wpAny_bind (wpAny_newTuple ?_)
 have f2 : IsItemIter (h1.push { cls:=.type "tuple",data:=.seq #[en.key,en.val] }) it d (i + 1) es.size ep ok ov:=Heap.get?_push_of_some _ f1
 have z1 : h1.objs.size = hp.objs.size:=k1.1
 have il : it < hp.objs.size:=Heap.lt_size hi
 have t2 : (h1.push { cls:=.type "tuple",data:=.seq #[en.key,en.val] }).get? hp.objs.size = some { cls:=.type "tuple",data:=.seq #[en.key,en.val] }:=by rw [← z1]; exact Heap.get?_push_size _ rfl
 have z2 : (h1.push { cls:=.type "tuple",data:=.seq #[en.key,en.val] }).objs.size = hp.objs.size + 1:=by rw [Heap.size_push,z1]
 have k2 : ∀ b o,b ≠ it → hp.get? b = some o → (h1.push { cls:=.type "tuple",data:=.seq #[en.key,en.val] }).get? b = some o:=fun b o hb e => Heap.get?_push_of_some _ (k1.extBut b o hb e)
 rw [z1]
 generalize h1.push { cls:=.type "tuple",data:=.seq #[en.key,en.val] } = h2 at f2 t2 z2 k2 ⊢
 show wpAny _ _ (Builtin.Dict_items.ownedTupleIsFree (.ref it) >>= _) _ _ ⟨h2,g,dr,tk,os⟩
 refine wpAny_bind ?_
 unfold Builtin.Dict_items.ownedTupleIsFree
 refine wpAny_bind (wpAny_field f2 rfl (x:=.none) rfl (wpAny_pure ?_))
 simp only [if_true]
 refine wpAny_bind (wpAny_field f2 rfl (x:=ok) rfl (wpAny_bind (wpAny_field f2 rfl (x:=ov) rfl (wpAny_bind (wpAny_setField_rec f2 (by simp) fun h3 f3 k3 => ?_)))))
 replace k3 : Heap.SameBut it h2 h3:=k3
 replace f3 : IsItemIter h3 it d (i + 1) es.size ep en.key ov:=f3
 refine wpAny_bind (wpAny_setField_rec f3 (by simp) fun h4 f4 k4 => ?_)
 replace k4 : Heap.SameBut it h3 h4:=k4
 replace f4 : IsItemIter h4 it d (i + 1) es.size ep en.key en.val:=f4
 refine wpAny_bind (wpAny_setField_rec f4 (by simp) fun h5 f5 k5 => ?_)
 replace k5 : Heap.SameBut it h4 h5:=k5
 replace f5 : IsItemIterOut h5 it d (i + 1) es.size ep en.key en.val hp.objs.size:=f5
 refine wpAny_bind (wpAny_setField_rec f5 (by simp) fun h6 f6 k6 => ?_)
 replace k6 : Heap.SameBut it h5 h6:=k6
 replace f6 : IsItemIterOut h6 it d (i + 1) es.size ep en.key en.val hp.objs.size:=f6
 have go : ∀ b o,b ≠ it → h2.get? b = some o → h6.get? b = some o:=fun b o hb e => k6.extBut b o hb (k5.extBut b o hb (k4.extBut b o hb (k3.extBut b o hb e)))
 refine wpAny_bind (wpAny_letGo (wpAny_pure (wpAny_pure ⟨_,rfl,wpAny_pure (q h6 f6 (go _ _ (Nat.ne_of_gt il) t2) ?_ fun b o hb e => go b o hb (k2 b o hb e))⟩)))
 show h6.objs.size = hp.objs.size + 1
 rw [k6.1,k5.1,k4.1,k3.1,z2]
theorem ada {it : Addr} {i : Nat} {ok ov : Value} {Q : Option Value → Shared → Prop} (hh : A.handled = none) (hi : IsItemIter s.heap it d i es.size ep ok ov) (D : Ent s.heap d od es ep) (hge : es.size ≤ i)
 (q : ∀ h',Heap.ExtBut it s.heap h' → Q none { s with heap:=h' }) : wpAny (model prog w) A (pyNext (.ref it)) Q E s:=by
 have hT : s.TypeIs (.ref it) "dict_itemiterator":=⟨_,hi,rfl⟩
 unfold pyNext
 refine wpAny_bind (wpAny_attempt (wpAny_callSpecial?_slot (name:=Str.ofString "__next__") hT F.slot_dict_itemiterator_next (wpAny_call_entry F.slot_dict_itemiterator_next hT F.entry_dict_itemiterator_next ?_ (F.args_dict_itemiterator_next_1 _))))
 refine wpAny_bind (wpAny_pure (wpAny_bind (wpAny_bind ?_)))
 first | refine wpAny_bind (wpAny_typeNameOfWhole_itemiter hT (wpAny_pure (wpAny_bind (wpAny_fieldsOf hi rfl ?_)))) | refine wpAny_bind (wpAny_typeNameOf_itemiter hT (wpAny_pure (wpAny_bind (wpAny_fieldsOf hi rfl ?_))))
 simp only [show Builtin.Dict_items.ownsTuple "dict_itemiterator" = true by decide,if_true]
 show wpAny _ _ (if (Value.ref d == Value.none) = true then _ else _) _ _ s
 rw [if_neg (show ¬ ((Value.ref d == Value.none) = true) by exact Bool.false_ne_true)]
 refine wpAny_bind (wpAny_pure (wpAny_bind (wpAny_dictEntries D.at_ D.dat ?_)))
 rw [if_neg (by simp)]
 refine wpAny_bind (wpAny_pure (wpAny_bind (wpAny_dictEpoch D.at_ D.dat ?_)))
 rw [if_neg (by simp)]
 refine wpAny_pure ?_
 simp only [show ¬ ((i : Int) < 0) by omega,if_false,Int.toNat_natCast,Array.getElem?_eq_none hge]
 refine wpAny_bind ?_
 first | refine wpAny_bind (wpAny_typeNameOfWhole_itemiter hT (wpAny_pure ?_)) | refine wpAny_bind (wpAny_typeNameOf_itemiter hT (wpAny_pure ?_))
 show wpAny _ _ (setField (.ref it) 2 .none >>= _) _ _ s
 refine wpAny_bind (wpAny_setField hi rfl (by simp) ?_)
 show wpAny _ _ (newExc (.type "StopIteration") [] >>= _) _ _ _
 refine wpAny_bind ?_
 simp only [newExc,newTuple]
 refine wpAny_bind (wpAny_newObj_type ?_ (by size_fits))
 refine wpAny_bind (m:=firstArgMember _ _) (wpAny_of_eq (a:=Value.none) (by first | rfl | (simp only [firstArgMember]; rfl)) (wpAny_newObj_type ?_ (by size_fits)))
 simp only [raiseNew]
 refine wpAny_bind (wpAny_handled ?_)
 rw [show A.in1.handled = none from hh]
 refine wpAny_bind (wpAny_pure (wpAny_throw ?_))
 exact wpAny_bind (wpAny_isInstance (T:="StopIteration") (b:=true) ⟨_,Heap.get?_push_size _ rfl,rfl⟩ isSubtype_stop (wpAny_pure (q _ (((Heap.SameBut.update ..).extBut.push _).push _))))
theorem SM (hh : A.handled = none) (I d : Addr) (hne : d ≠ I) (od : Obj) (es : Array DictEntry) (ep : Nat) :
 Walks prog w A I [I,d] [I] es.size (fun i v => ∃ en,es[i]? = some en ∧ v = en.val) (fun i h => h.IsValIter I d i es.size ep ∧ Ent h d od es ep) where
 sub:=fun b hb => by simp at hb; simp [hb]
 frame:=fun _ _ _ st k => ⟨st.1.at fun o e => k I (by simp) o e,st.2.up fun o e => k d (by simp) o e⟩
 item:=fun i s Q E lt st q => by
  have hx : es[i]? = some es[i]:=Array.getElem?_eq_getElem lt
  refine KZ st.1 st.2 hx fun h' hn sb => ?_
  exact q _ h' s.toks ⟨_,hx,rfl⟩ ⟨hn,st.2.up fun o e => sb.extBut d o hne e⟩ fun b o hb e => sb.extBut b o (fun z => hb (by simp [z])) e
 done:=fun s Q E st q => NB hh st.1 st.2 (Nat.le_refl _) fun h' eb => q h' s.toks fun b o hb e => eb b o (fun z => hb (by simp [z])) e
 self:=fun _ _ _ _ st q => wpAny_pyIter_valiter st.1 q
end
end ShV
end
section
namespace ShV
open PySem
section
variable {prog : Program} {w : World} {A : Around} {E : Value → Shared → Prop} {s : Shared} {d v : Addr} {od : Obj} {es : Array DictEntry} {ep : Nat}
theorem ach {Q : Bool → Shared → Prop} (hv : s.heap.IsValuesView v d) (q : Q false s) : wpAny (model prog w) A (Builtin.List.listLengthHint (.ref v)) Q E s:=by
 unfold Builtin.List.listLengthHint
 refine wpAny_bind (wpAny_specialOf hv.typeIs F.slot_dict_values_len.lookup ?_)
 generalize hid : ("dict_values.__len__" : String) = id0
 wp_delta
 rw [show splitId id0 = some ("dict_values","__len__") from by subst hid; decide +kernel]
 subst hid
 refine wpAny_bind (wpAny_isInstance (T:="dict_values") (b:=true) hv.typeIs (by rw [isSubtype_type]; kernel_rfl) ?_)
 refine wpAny_ite_split (fun z => absurd z (by decide)) (fun _ => ?_)
 refine wpAny_ite_split (fun _ => ?_) (fun z => absurd (by decide +kernel) z)
 exact wpAny_bind (wpAny_typeOf hv.typeIs (wpAny_pure q))
theorem ac7 {R : Result → Shared → Prop} (hh : A.handled = none) (hv : s.heap.IsValuesView v d) (D : Ent s.heap d od es ep) (hz : es.size ≤ sizeLine) (S : Addr) (res : Value) (c0 : Nat)
 (hS : s.heap.get? S = some { cls:=.type "list",data:=.seq #[] c0 }) (hSd : S ≠ d)
 (hR : ∀ h' tk acc c',(∀ b o,b ≠ S → s.heap.get? b = some o → h'.get? b = some o) → h'.get? S = some { cls:=.type "list",dict:=none,data:=.seq acc c',slots:=#[] } →
  ItemsOf (fun i x => ∃ en,es[i]? = some en ∧ x = en.val) acc es.size → R (.ok (.ret res)) { s with heap:=h',toks:=tk }) :
 wpAny (model prog w) A.in1 (Builtin.List.listExtendWith (.ref S) (.ref v) res)
  (fun fin s' => match fin with | .done f => R (.ok f) s' | .again c' => c'.quiet = true ∧ codeAny (model prog w) A c' R s') (fun e s' => R (.error e) s') s:=by
 obtain ⟨vo,e1,e2,e3⟩:=id hv
 have nSv : S ≠ v:=fun e => by rw [e,e1] at hS; have:=congrArg (fun o => o.map Obj.cls) hS; simp [e2] at this
 have nSI : S ≠ s.heap.objs.size:=Nat.ne_of_lt (Heap.lt_size hS)
 have nSf : S ∉ [s.heap.objs.size,d]:=fun z => by
  rcases List.mem_cons.mp z with z | z
  ·exact nSI z
  ·exact hSd (List.mem_singleton.mp z)
 have ndI : d ≠ s.heap.objs.size:=Nat.ne_of_lt (Heap.lt_size D.at_)
 have Wk:=(SM (prog:=prog) (w:=w) (A:=A.in1) hh s.heap.objs.size d ndI od es ep).toS
 unfold Builtin.List.listExtendWith
 refine wpAny_bind (wpAny_typeOf (T:="dict_values") hv.typeIs ?_)
 have h1 : Builtin.List.listSameRef (.ref S) (.ref v) = false:=by simp [Builtin.List.listSameRef,nSv]
 simp only [h1,show (Value.type "dict_values" == Value.type "list") = false by decide,show (Value.type "dict_values" == Value.type "tuple") = false by decide,Bool.or_false,Bool.false_eq_true,if_false]
 refine wpAny_bind (MM hv D ?_)
 have hv1 : (s.heap.push (lR d 0 es.size ep)).IsValuesView v d:=⟨vo,Heap.get?_push_of_some _ e1,e2,e3⟩
 refine wpAny_bind (wpAny_holding (ach (d:=d) hv1 ?_))
 have hS1:=Heap.get?_push_of_some (lR d 0 es.size ep) hS
 refine wpAny_ite_split (fun _ => ?_) (fun z => absurd (by decide +kernel) z)
 refine wpAny_bind (wpAny_rule (wpAny_bind ?_))
 show wpAny _ _ (updateSeq S (·.push .none) >>= fun _ => updateSeq S (·.pop)) _ _ _
 refine wpAny_bind (wpAny_updateSeq hS1 rfl ?_)
 have hS2:=Heap.get?_update_self (Obj.mapSeq (·.push Value.none)) hS1 rfl
 refine wpAny_updateSeq (hz:=by seq_fits) hS2 rfl ?_
 have hS3:=Heap.get?_update_self (Obj.mapSeq (·.pop)) hS2 rfl
 have kp : ∀ b o,b ≠ S → (s.heap.push (lR d 0 es.size ep)).get? b = some o → (((s.heap.push (lR d 0 es.size ep)).update S (Obj.mapSeq (·.push Value.none))).update S (Obj.mapSeq (·.pop))).get? b = some o :=
  fun b o hb e => (Heap.get?_update_other _ _ (Ne.symm hb)).trans ((Heap.get?_update_other _ _ (Ne.symm hb)).trans e)
 refine wpAny_pure ⟨plainId_quiet F.plain_extend_loop _,codeAny_extend_loopS Wk hz S nSf res es.size 0 _ #[] _ rfl (Nat.zero_le _) ?_ hS3 (ItemsOf.nil _) fun s' acc c' hm hS' hacc => ?_⟩
 ·refine ⟨⟨_,kp _ _ (Ne.symm nSI) (Heap.get?_push_size _ rfl),rfl,rfl⟩,D.up fun o e => kp d o (Ne.symm hSd) (Heap.get?_push_of_some _ e)⟩
 ·rw [Moved.eq_with hm]
  refine hR s'.heap s'.toks acc c' (fun b o hb e => hm.heap b o (fun z => ?_) (kp b o hb (Heap.get?_push_of_some _ e))) hS' hacc
  rcases List.mem_cons.mp z with z | z
  ·exact hb z
  ·exact absurd (Heap.lt_size e) (by rw [List.mem_singleton.mp z]; exact Nat.lt_irrefl _)
theorem abC {R : Result → Shared → Prop} (hh : A.handled = none) (hv : s.heap.IsValuesView v d) (D : Ent s.heap d od es ep) (hz : es.size ≤ sizeLine) (S : Addr) (hS : s.heap.get? S = some { cls:=.type "list",data:=.seq #[] }) (hSd : S ≠ d)
 (hR : ∀ h' tk acc c',(∀ b o,b ≠ S → s.heap.get? b = some o → h'.get? b = some o) → h'.get? S = some { cls:=.type "list",dict:=none,data:=.seq acc c',slots:=#[] } →
  ItemsOf (fun i x => ∃ en,es[i]? = some en ∧ x = en.val) acc es.size → R (.ok (.ret .none)) { s with heap:=h',toks:=tk }) :
 wpAny (model prog w) A.in1 (Builtin.«list.__init__» ⟨[.ref S,.ref v],[]⟩)
  (fun fin s' => match fin with | .done f => R (.ok f) s' | .again c' => c'.quiet = true ∧ codeAny (model prog w) A c' R s') (fun e s' => R (.error e) s') s:=by
 obtain ⟨vo,e1,e2,e3⟩:=id hv
 have nSv : S ≠ v:=fun e => by rw [e,e1] at hS; have:=congrArg (fun o => o.map Obj.cls) hS; simp [e2] at this
 show wpAny _ _ (do let old ← Builtin.List.listItems (.ref S); Builtin.List.listUpdate (.ref S) (fun _ => #[]); letGo old.toList.reverse; Builtin.List.listExtendWith (.ref S) (.ref v) .none) _ _ s
 refine wpAny_bind ?_
 unfold Builtin.List.listItems
 refine wpAny_bind (wpAny_seqItems hS rfl (wpAny_pure ?_))
 show wpAny _ _ (updateSeq S (fun _ => #[]) >>= fun _ => letGo (#[] : Array Value).toList.reverse >>= fun _ => Builtin.List.listExtendWith (.ref S) (.ref v) .none) _ _ s
 refine wpAny_bind (wpAny_updateSeq hS rfl ?_)
 have hS2:=Heap.get?_update_self (Obj.mapSeq (fun _ => (#[] : Array Value))) hS rfl
 have kp : ∀ b o,b ≠ S → s.heap.get? b = some o → (s.heap.update S (Obj.mapSeq (fun _ => (#[] : Array Value)))).get? b = some o:=fun b o hb e => (Heap.get?_update_other _ _ (Ne.symm hb)).trans e
 refine wpAny_bind (wpAny_letGo (ac7 hh ⟨vo,kp _ _ (Ne.symm nSv) e1,e2,e3⟩ (D.up fun o e => kp d o (Ne.symm hSd) e) hz S .none _ hS2 hSd fun h' tk acc c' hk hS' hacc => ?_))
 exact hR h' tk acc c' (fun b o hb e => hk b o hb (kp b o hb e)) hS' hacc
theorem abe {Q : Value → Shared → Prop} (hh : A.handled = none) (hv : s.heap.IsValuesView v d) (D : Ent s.heap d od es ep) (hz : es.size ≤ sizeLine)
 (hQ : ∀ h' tk acc c',(∀ b o,s.heap.get? b = some o → h'.get? b = some o) → h'.get? s.heap.objs.size = some { cls:=.type "list",dict:=none,data:=.seq acc c',slots:=#[] } →
  ItemsOf (fun i x => ∃ en,es[i]? = some en ∧ x = en.val) acc es.size → Q (.ref s.heap.objs.size) { s with heap:=h',toks:=tk }) :
 wpAny (model prog w) A (call (.type "list") [.ref v]) Q E s:=by
 refine callType_codes (Q₁:=fun obj s₁ => obj = .ref s.heap.objs.size ∧ s₁ = { s with heap:=s.heap.push { cls:=.type "list",data:=.seq #[] } }) F.called_list (F.typeCall_list_1 _) F.entry_list_init (code_list_new _ ⟨rfl,rfl⟩) fun obj s1 h1 => ?_
 obtain ⟨rfl,rfl⟩:=h1
 obtain ⟨vo,e1,e2,e3⟩:=id hv
 have hS : (s.heap.push { cls:=.type "list",data:=.seq #[] }).get? s.heap.objs.size = some { cls:=.type "list",data:=.seq #[] }:=Heap.get?_push_size _ rfl
 refine ⟨⟨_,hS,rfl⟩,F.args_list_init_2 _ _,abC (A:=A.in1) hh ⟨vo,Heap.get?_push_of_some _ e1,e2,e3⟩ (D.up fun o e => Heap.get?_push_of_some _ e) hz _ hS (Nat.ne_of_gt (Heap.lt_size D.at_)) fun h' tk acc c' hk hS' hacc => ?_⟩
 exact ⟨rfl,hQ h' tk acc c' (fun b o e => hk b o (Nat.ne_of_lt (Heap.lt_size e)) (Heap.get?_push_of_some _ e)) hS' hacc⟩
end
end ShV
end
section
namespace ShV
open PySem
inductive SK where
 | l
 | t
def S0 : SK → String
 | .l => "list"
 | .t => "tuple"
def Ab : SK → String
 | .l => "list_iterator"
 | .t => "tuple_iterator"
def Sq (k : SK) (h : Heap) (a : Addr) (xs : Array Value) : Prop:=∃ o,h.get? a = some o ∧ o.cls = .type (S0 k) ∧ ∃ n,o.data = .seq xs n
def cH (k : SK) (h : Heap) (i a : Addr) (n : Nat) : Prop:=∃ o,h.get? i = some o ∧ o.cls = .type (Ab k) ∧ o.data = .fields #[.ref a,.int n 0]
theorem Sq.up {k : SK} {h h' : Heap} {a : Addr} {xs : Array Value} (q : Sq k h a xs) (e : ∀ o,h.get? a = some o → h'.get? a = some o) : Sq k h' a xs:=let ⟨o,ho,r⟩:=q; ⟨o,e _ ho,r⟩
theorem cH.up {k : SK} {h h' : Heap} {i a : Addr} {n : Nat} (q : cH k h i a n) (e : ∀ o,h.get? i = some o → h'.get? i = some o) : cH k h' i a n:=let ⟨o,ho,r⟩:=q; ⟨o,e _ ho,r⟩
theorem Sq.lt {k : SK} {h : Heap} {a : Addr} {xs : Array Value} (q : Sq k h a xs) : a < h.objs.size:=let ⟨_,ho,_⟩:=q; Heap.lt_size ho
theorem cH.lt {k : SK} {h : Heap} {i a : Addr} {n : Nat} (q : cH k h i a n) : i < h.objs.size:=let ⟨_,ho,_⟩:=q; Heap.lt_size ho
section
variable {prog : Program} {w : World} {A : Around} {E : Value → Shared → Prop} {s : Shared}
theorem MN {k : SK} {a : Addr} {xs : Array Value} {Q : Value → Shared → Prop} (hq : Sq k s.heap a xs) (q : Q (.ref s.heap.objs.size) { s with heap:=s.heap.push { cls:=.type (Ab k),data:=.fields #[.ref a,.int 0 0] } }) :
 wpAny (model prog w) A (pyIter (.ref a)) Q E s:=by
 cases k with
 | l => exact wpAny_pyIter_list hq q
 | t => exact wpAny_pyIter_tuple hq q
theorem aaU {i a : Addr} {n : Nat} {xs : Array Value} {x : Value} {Q : Value → Shared → Prop} (hi : s.heap.IsTupleIter i a n) (hq : s.heap.IsTuple a xs) (hx : xs[n]? = some x)
 (q : ∀ h',h'.IsTupleIter i a (n + 1) → Heap.SameBut i s.heap h' → Q x { s with heap:=h' }) : wpAny (model prog w) A (Builtin.SmallTypes.nextOf (.ref i)) Q E s:=by
 obtain ⟨io,e1,e2,e3⟩:=id hi
 obtain ⟨so,f1,_,sn,f3⟩:=hq
 unfold Builtin.SmallTypes.nextOf
 refine wpAny_bind (wpAny_callSpecial?_slot (name:=Str.ofString "__next__") hi.typeIs F.slot_tuple_iterator_next (wpAny_call_entry F.slot_tuple_iterator_next hi.typeIs F.entry_tuple_iterator_next ?_ (F.args_tuple_iterator_next_1 _)))
 show wpAny _ _ (field (.ref i) 0 >>= _) _ _ s
 refine wpAny_bind (wpAny_field e1 e3 (x:=.ref a) rfl ?_)
 show wpAny _ _ (if (Value.ref a == Value.none) = true then _ else _) _ _ s
 rw [if_neg (show ¬ ((Value.ref a == Value.none) = true) by exact Bool.false_ne_true)]
 show wpAny _ _ (field (.ref i) 1 >>= _) _ _ s
 refine wpAny_bind (wpAny_field e1 e3 (x:=.int n 0) rfl ?_)
 show wpAny _ _ (seqItems? (.ref a) >>= _) _ _ s
 refine wpAny_bind (wpAny_seqItems f1 f3 ?_)
 simp only [Int.toNat_natCast,hx]
 exact wpAny_bind (wpAny_setField e1 e3 (by simp) (wpAny_pure ⟨x,rfl,wpAny_pure (q _ ⟨_,Heap.get?_update_self _ e1 (Obj.isFreed_of_fields (Obj.data_mapFields e3 _)),(Obj.cls_mapFields ..).trans e2,by rw [Obj.data_mapFields e3]; simp [rawInt]⟩ (Heap.SameBut.update ..))⟩))
theorem adb {i a : Addr} {n : Nat} {xs : Array Value} {Q : Value → Shared → Prop} (hh : A.handled = none) (hi : s.heap.IsTupleIter i a n) (hq : s.heap.IsTuple a xs) (hx : xs[n]? = none)
 (q : ∀ h' e,Heap.ExtBut i s.heap h' → (∃ o,h'.get? e = some o ∧ o.cls = .type "StopIteration") → E (.ref e) { s with heap:=h' }) : wpAny (model prog w) A (Builtin.SmallTypes.nextOf (.ref i)) Q E s:=by
 obtain ⟨io,e1,e2,e3⟩:=id hi
 obtain ⟨so,f1,_,sn,f3⟩:=hq
 unfold Builtin.SmallTypes.nextOf
 refine wpAny_bind (wpAny_callSpecial?_slot (name:=Str.ofString "__next__") hi.typeIs F.slot_tuple_iterator_next (wpAny_call_entry F.slot_tuple_iterator_next hi.typeIs F.entry_tuple_iterator_next ?_ (F.args_tuple_iterator_next_1 _)))
 show wpAny _ _ (field (.ref i) 0 >>= _) _ _ s
 refine wpAny_bind (wpAny_field e1 e3 (x:=.ref a) rfl ?_)
 show wpAny _ _ (if (Value.ref a == Value.none) = true then _ else _) _ _ s
 rw [if_neg (show ¬ ((Value.ref a == Value.none) = true) by exact Bool.false_ne_true)]
 show wpAny _ _ (field (.ref i) 1 >>= _) _ _ s
 refine wpAny_bind (wpAny_field e1 e3 (x:=.int n 0) rfl ?_)
 show wpAny _ _ (seqItems? (.ref a) >>= _) _ _ s
 refine wpAny_bind (wpAny_seqItems f1 f3 ?_)
 simp only [Int.toNat_natCast,hx]
 refine wpAny_bind (wpAny_rule (wpAny_bind (wpAny_setField e1 e3 (by simp) ?_)))
 show wpAny _ _ (newExc (.type "StopIteration") [] >>= _) _ _ _
 refine wpAny_bind ?_
 simp only [newExc,newTuple]
 refine wpAny_bind (wpAny_newObj_type ?_ (by size_fits))
 refine wpAny_bind (m:=firstArgMember _ _) (wpAny_of_eq (a:=Value.none) (by first | rfl | (simp only [firstArgMember]; rfl)) (wpAny_newObj_type ?_ (by size_fits)))
 simp only [raiseNew]
 refine wpAny_bind (wpAny_handled ?_)
 first | rw [show A.in1.handled = none from hh] | rw [hh]
 refine wpAny_bind (wpAny_pure (wpAny_throw ?_))
 exact q _ _ (((Heap.SameBut.update ..).extBut.push _).push _) ⟨_,Heap.get?_push_size _ rfl,rfl⟩
theorem p3 {k : SK} {i a : Addr} {n : Nat} {xs : Array Value} {x : Value} {Q : Value → Shared → Prop} (hi : cH k s.heap i a n) (hq : Sq k s.heap a xs) (hx : xs[n]? = some x)
 (q : ∀ h',cH k h' i a (n + 1) → Heap.SameBut i s.heap h' → Q x { s with heap:=h' }) : wpAny (model prog w) A (Builtin.SmallTypes.nextOf (.ref i)) Q E s:=by
 cases k with
 | l => exact wpAny_nextOf_list_item hi hq hx q
 | t => exact aaU hi hq hx q
theorem Bk {k : SK} {i a : Addr} {n : Nat} {xs : Array Value} {Q : Value → Shared → Prop} (hh : A.handled = none) (hi : cH k s.heap i a n) (hq : Sq k s.heap a xs) (hx : xs[n]? = none)
 (q : ∀ h' e,Heap.ExtBut i s.heap h' → (∃ o,h'.get? e = some o ∧ o.cls = .type "StopIteration") → E (.ref e) { s with heap:=h' }) : wpAny (model prog w) A (Builtin.SmallTypes.nextOf (.ref i)) Q E s:=by
 cases k with
 | l => exact wpAny_nextOf_list_end hh hi hq hx q
 | t => exact adb hh hi hq hx q
theorem NF {k : SK} (hh : A.handled = none) (i a : Addr) (hne : a ≠ i) (xs : Array Value) : Draws prog w A i [i,a] xs.size (fun n v => xs[n]? = some v) (fun n h => cH k h i a n ∧ Sq k h a xs) where
 live:=fun _ _ st => let ⟨o,ho,_⟩:=st.1; ⟨o,ho⟩
 frame:=fun _ _ _ st kp => ⟨st.1.up fun o e => kp i (by simp) o e,st.2.up fun o e => kp a (by simp) o e⟩
 item:=fun n s Q E lt st q => p3 st.1 st.2 (Array.getElem?_eq_getElem lt) fun h' it' sb => q _ h' s.toks (Array.getElem?_eq_getElem lt) ⟨it',st.2.up fun o e => sb.extBut a o hne e⟩ sb
 done:=fun s Q E st q => Bk hh st.1 st.2 (Array.getElem?_eq_none (Nat.le_refl _)) q
theorem aaS {k1 k2 : SK} {z TI TO i1 i2 l1 l2 : Addr} {n : Nat} {xs ys : Array Value} {x y a b : Value} {Q : Option Value → Shared → Prop} (D : ZipApart z TI TO i1 i2 l1 l2)
 (hz : IsZip s.heap z TI TO .none) (hTI : IsPair s.heap TI (.ref i1) (.ref i2)) (hTO : IsPair s.heap TO a b)
 (h1 : cH k1 s.heap i1 l1 n) (h2 : cH k2 s.heap i2 l2 n) (q1 : Sq k1 s.heap l1 xs) (q2 : Sq k2 s.heap l2 ys) (hx : xs[n]? = some x) (hy : ys[n]? = some y)
 (q : ∀ h',IsZip h' z TI TO (rawInt s.heap.objs.size) → IsPair h' TO x y → cH k1 h' i1 l1 (n + 1) → cH k2 h' i2 l2 (n + 1) → IsPair h' s.heap.objs.size x y → h'.objs.size = s.heap.objs.size + 1 →
  (∀ c o,c ≠ z → c ≠ TO → c ≠ i1 → c ≠ i2 → s.heap.get? c = some o → h'.get? c = some o) → Q (some (.ref s.heap.objs.size)) { s with heap:=h' }) :
 wpAny (model prog w) A (pyNext (.ref z)) Q E s:=by
 have hT : s.TypeIs (.ref z) "zip":=⟨_,hz,rfl⟩
 unfold pyNext
 refine wpAny_bind (wpAny_attempt (wpAny_callSpecial?_slot (name:=Str.ofString "__next__") hT F.slot_zip_next (wpAny_call_entry F.slot_zip_next hT F.entry_zip_next ?_ (F.args_zip_next_1 _))))
 show wpAny _ _ (field (.ref z) 2 >>= _) _ _ _
 refine wpAny_bind (wpAny_field hz rfl (x:=.bool false) rfl ?_)
 show wpAny _ _ (field (.ref z) 3 >>= _) _ _ _
 refine wpAny_bind (wpAny_field hz rfl (x:=.ref TI) rfl (wpAny_bind (wpAny_seqItems hTI rfl ?_)))
 show wpAny _ _ (Builtin.SmallTypes.ownedTupleIsFree (.ref z) >>= _) _ _ _
 refine wpAny_bind ?_
 unfold Builtin.SmallTypes.ownedTupleIsFree
 refine wpAny_bind (wpAny_field hz rfl (x:=.none) rfl (wpAny_pure ?_))
 simp only [if_true]
 refine wpAny_bind (wpAny_rule (wpAny_bind (wpAny_field hz rfl (x:=.ref TO) rfl (wpAny_bind (wpAny_setField_rec hz (by simp) fun g1 z1 s1 => ?_)))))
 replace z1 : IsZip g1 z TI TO .ellipsis:=z1
 refine wpAny_bind ?_
 simp only [List.zipIdx_cons,List.zipIdx_nil,List.forIn_cons,List.forIn_nil]
 refine wpAny_bind (wpAny_bind (wpAny_onRaise ?_))
 show wpAny _ _ (Builtin.SmallTypes.nextOf (.ref i1) >>= _) _ _ _
 refine wpAny_bind (p3 (h1.up fun o e => s1.extBut i1 o D.i1z e) (q1.up fun o e => s1.extBut l1 o D.l1z e) hx fun g2 j1 s2 => wpAny_pure ?_)
 have t2 : IsPair g2 TO a b:=s2.extBut _ _ D.TOi1 (s1.extBut _ _ D.TOz hTO)
 refine wpAny_bind (wpAny_seqItems t2 rfl (wpAny_bind (wpAny_updateSeq_pair t2 fun g3 t3 s3 => ?_)))
 replace t3 : IsPair g3 TO x b:=t3
 refine wpAny_bind (wpAny_letGo (wpAny_pure (wpAny_bind (wpAny_bind (wpAny_onRaise ?_)))))
 show wpAny _ _ (Builtin.SmallTypes.nextOf (.ref i2) >>= _) _ _ _
 have up3 : ∀ c o,c ≠ z → c ≠ TO → c ≠ i1 → s.heap.get? c = some o → g3.get? c = some o:=fun c o c1 c2 c3 e => s3.extBut _ _ c2 (s2.extBut _ _ c3 (s1.extBut _ _ c1 e))
 refine wpAny_bind (p3 (h2.up fun o e => up3 i2 o D.i2z D.TOi2.symm D.i12.symm e) (q2.up fun o e => up3 l2 o D.l2z D.l2TO D.l2i1 e) hy fun g4 j2 s4 => wpAny_pure ?_)
 have t4 : IsPair g4 TO x b:=s4.extBut _ _ D.TOi2 t3
 refine wpAny_bind (wpAny_seqItems t4 rfl (wpAny_bind (wpAny_updateSeq_pair t4 fun g5 t5 s5 => ?_)))
 replace t5 : IsPair g5 TO x y:=t5
 refine wpAny_bind (wpAny_letGo (wpAny_pure (wpAny_pure (wpAny_bind (wpAny_seqItems t5 rfl (wpAny_bind (wpAny_newTuple ?_)))))))
 have z5 : g5.objs.size = s.heap.objs.size:=by rw [s5.1,s4.1,s3.1,s2.1,s1.1]
 have y5 : IsZip g5 z TI TO .ellipsis:=s5.extBut _ _ D.TOz.symm (s4.extBut _ _ D.i2z.symm (s3.extBut _ _ D.TOz.symm (s2.extBut _ _ D.i1z.symm z1)))
 have up5 : ∀ c o,c ≠ z → c ≠ TO → c ≠ i1 → c ≠ i2 → s.heap.get? c = some o → g5.get? c = some o:=fun c o c1 c2 c3 c4 e => s5.extBut _ _ c2 (s4.extBut _ _ c4 (up3 c o c1 c2 c3 e))
 have j15 : cH k1 g5 i1 l1 (n + 1):=j1.up fun o e => s5.extBut _ _ D.TOi1.symm (s4.extBut _ _ D.i12 (s3.extBut _ _ D.TOi1.symm e))
 have j25 : cH k2 g5 i2 l2 (n + 1):=j2.up fun o e => s5.extBut _ _ D.TOi2.symm e
 have zl : z < g5.objs.size:=Heap.lt_size y5
 show wpAny _ _ (Builtin.SmallTypes.ownedTupleHandOut (.ref z) (.ref g5.objs.size) >>= _) _ _ _
 refine wpAny_bind ?_
 unfold Builtin.SmallTypes.ownedTupleHandOut
 have y6 : IsZip (g5.push { cls:=.type "tuple",data:=.seq #[x,y] }) z TI TO .ellipsis:=Heap.get?_push_of_some _ y5
 refine wpAny_bind (wpAny_setField_rec y6 (by simp) fun g7 y7 s7 => ?_)
 replace y7 : IsZip g7 z TI TO (rawInt g5.objs.size):=y7
 refine wpAny_setField_rec y7 (by simp) fun g8 y8 s8 => ?_
 replace y8 : IsZip g8 z TI TO (rawInt g5.objs.size):=y8
 have up8 : ∀ c o,c ≠ z → g5.get? c = some o → g8.get? c = some o:=fun c o c1 e => s8.extBut _ _ c1 (s7.extBut _ _ c1 (Heap.get?_push_of_some _ e))
 have p8 : IsPair g8 g5.objs.size x y:=s8.extBut _ _ (Nat.ne_of_gt zl) (s7.extBut _ _ (Nat.ne_of_gt zl) (Heap.get?_push_size _ rfl))
 have z8 : g8.objs.size = g5.objs.size + 1:=by rw [s8.1,s7.1,Heap.size_push]
 rw [z5] at y8 p8 z8
 refine wpAny_pure ⟨_,rfl,wpAny_pure ?_⟩
 show Q (some (.ref g5.objs.size)) _
 rw [z5]
 exact q g8 y8 (up8 _ _ D.TOz t5) (j15.up fun o e => up8 _ o D.i1z e) (j25.up fun o e => up8 _ o D.i2z e) p8 z8 fun c o c1 c2 c3 c4 e => up8 c o c1 (up5 c o c1 c2 c3 c4 e)
theorem ac9 {k1 k2 : SK} {z TI TO i1 i2 l1 l2 : Addr} {n : Nat} {xs ys : Array Value} {a b : Value} {Q : Option Value → Shared → Prop} (hh : A.handled = none) (D : ZipApart z TI TO i1 i2 l1 l2)
 (hz : IsZip s.heap z TI TO .none) (hTI : IsPair s.heap TI (.ref i1) (.ref i2)) (hTO : IsPair s.heap TO a b)
 (h1 : cH k1 s.heap i1 l1 n) (h2 : cH k2 s.heap i2 l2 n) (q1 : Sq k1 s.heap l1 xs) (q2 : Sq k2 s.heap l2 ys) (hend : xs[n]? = none ∨ ys[n]? = none)
 (q : ∀ h',(∀ c o,c ≠ z → c ≠ TO → c ≠ i1 → c ≠ i2 → s.heap.get? c = some o → h'.get? c = some o) → Q none { s with heap:=h' }) : wpAny (model prog w) A (pyNext (.ref z)) Q E s:=by
 have hT : s.TypeIs (.ref z) "zip":=⟨_,hz,rfl⟩
 unfold pyNext
 refine wpAny_bind (wpAny_attempt (wpAny_callSpecial?_slot (name:=Str.ofString "__next__") hT F.slot_zip_next (wpAny_call_entry F.slot_zip_next hT F.entry_zip_next ?_ (F.args_zip_next_1 _))))
 have fin : ∀ h' e,(∀ c o,c ≠ z → c ≠ TO → c ≠ i1 → c ≠ i2 → s.heap.get? c = some o → h'.get? c = some o) → (∃ o,h'.get? e = some o ∧ o.cls = .type "StopIteration") →
  wpAny (model prog w) A (do if ← isInstance (.ref e) (.type "StopIteration") then pure none else throw (.ref e)) Q E { s with heap:=h' }:=fun h' e kp ⟨o,ho,hc⟩ =>
  wpAny_bind (wpAny_isInstance (T:="StopIteration") (b:=true) ⟨o,ho,hc⟩ isSubtype_stop (wpAny_pure (q _ kp)))
 show wpAny _ _ (field (.ref z) 2 >>= _) _ _ _
 refine wpAny_bind (wpAny_field hz rfl (x:=.bool false) rfl ?_)
 show wpAny _ _ (field (.ref z) 3 >>= _) _ _ _
 refine wpAny_bind (wpAny_field hz rfl (x:=.ref TI) rfl (wpAny_bind (wpAny_seqItems hTI rfl ?_)))
 show wpAny _ _ (Builtin.SmallTypes.ownedTupleIsFree (.ref z) >>= _) _ _ _
 refine wpAny_bind ?_
 unfold Builtin.SmallTypes.ownedTupleIsFree
 refine wpAny_bind (wpAny_field hz rfl (x:=.none) rfl (wpAny_pure ?_))
 simp only [if_true]
 refine wpAny_bind (wpAny_rule (wpAny_bind (wpAny_field hz rfl (x:=.ref TO) rfl (wpAny_bind (wpAny_setField_rec hz (by simp) fun g1 z1 s1 => ?_)))))
 replace z1 : IsZip g1 z TI TO .ellipsis:=z1
 refine wpAny_bind ?_
 simp only [List.zipIdx_cons,List.zipIdx_nil,List.forIn_cons,List.forIn_nil]
 refine wpAny_bind (wpAny_bind (wpAny_onRaise ?_))
 show wpAny _ _ (Builtin.SmallTypes.nextOf (.ref i1) >>= _) _ _ _
 cases hx : xs[n]? with
 | none =>
   refine wpAny_bind (Bk hh (h1.up fun o e => s1.extBut i1 o D.i1z e) (q1.up fun o e => s1.extBut l1 o D.l1z e) hx fun g2 e s2 he => ?_)
   obtain ⟨oe,f1,f2⟩:=he
   have z2 : IsZip g2 z TI TO .ellipsis:=s2 _ _ D.i1z.symm z1
   have nez : e ≠ z:=fun y => by subst y; rw [z2] at f1; cases f1; simp at f2
   refine wpAny_setField_rec z2 (by simp) fun g3 _ s3 => fin g3 e (fun c o c1 _ c3 _ y => s3.extBut _ _ c1 (s2 _ _ c3 (s1.extBut _ _ c1 y))) ⟨oe,s3.extBut _ _ nez f1,f2⟩
 | some x =>
   have hy : ys[n]? = none:=by
    rcases hend with h | h
    ·rw [hx] at h; cases h
    ·exact h
   refine wpAny_bind (p3 (h1.up fun o e => s1.extBut i1 o D.i1z e) (q1.up fun o e => s1.extBut l1 o D.l1z e) hx fun g2 j1 s2 => wpAny_pure ?_)
   have t2 : IsPair g2 TO a b:=s2.extBut _ _ D.TOi1 (s1.extBut _ _ D.TOz hTO)
   refine wpAny_bind (wpAny_seqItems t2 rfl (wpAny_bind (wpAny_updateSeq_pair t2 fun g3 t3 s3 => ?_)))
   refine wpAny_bind (wpAny_letGo (wpAny_pure (wpAny_bind (wpAny_bind (wpAny_onRaise ?_)))))
   show wpAny _ _ (Builtin.SmallTypes.nextOf (.ref i2) >>= _) _ _ _
   have up3 : ∀ c o,c ≠ z → c ≠ TO → c ≠ i1 → s.heap.get? c = some o → g3.get? c = some o:=fun c o c1 c2 c3 e => s3.extBut _ _ c2 (s2.extBut _ _ c3 (s1.extBut _ _ c1 e))
   refine wpAny_bind (Bk hh (h2.up fun o e => up3 i2 o D.i2z D.TOi2.symm D.i12.symm e) (q2.up fun o e => up3 l2 o D.l2z D.l2TO D.l2i1 e) hy fun g4 e s4 he => ?_)
   obtain ⟨oe,f1,f2⟩:=he
   have z4 : IsZip g4 z TI TO .ellipsis:=s4 _ _ D.i2z.symm (s3.extBut _ _ D.TOz.symm (s2.extBut _ _ D.i1z.symm z1))
   have nez : e ≠ z:=fun y => by subst y; rw [z4] at f1; cases f1; simp at f2
   refine wpAny_setField_rec z4 (by simp) fun g5 _ s5 => fin g5 e (fun c o c1 c2 c3 c4 y => s5.extBut _ _ c1 (s4 _ _ c4 (up3 c o c1 c2 c3 y))) ⟨oe,s5.extBut _ _ nez f1,f2⟩
end
abbrev kK (k : SK) (a : Addr) : Obj:={ cls:=.type (Ab k),data:=.fields #[.ref a,.int 0 0] }
abbrev mV (k1 : SK) (h : Heap) (a : Addr) : Heap:=h.push (kK k1 a)
abbrev mU (k1 k2 : SK) (h : Heap) (a b : Addr) : Heap:=(mV k1 h a).push (kK k2 b)
abbrev mT (k1 k2 : SK) (h : Heap) (a b : Addr) : Heap:=(mU k1 k2 h a b).push { cls:=.type "tuple",data:=.seq #[.ref h.objs.size,.ref (mV k1 h a).objs.size] }
abbrev mS (k1 k2 : SK) (h : Heap) (a b : Addr) : Heap:=(mT k1 k2 h a b).push { cls:=.type "tuple",data:=.seq #[.none,.none] }
abbrev e8 (k1 k2 : SK) (h : Heap) (a b : Addr) : Heap:=(mS k1 k2 h a b).push { cls:=.type "zip",data:=.fields #[.none,.bool false,.bool false,.ref (mU k1 k2 h a b).objs.size,.ref (mT k1 k2 h a b).objs.size] }
theorem aa5 (k1 k2 : SK) (a b : Addr) (xs ys : Array Value) : Meets (Builtin.«zip.__new__» ⟨[.type "zip",.ref a,.ref b],[]⟩) (fun _ R s => Sq k1 s.heap a xs ∧ Sq k2 s.heap b ys ∧
 R (.ok (.ret (.ref (mS k1 k2 s.heap a b).objs.size))) { s with heap:=e8 k1 k2 s.heap a b }):=.of_wp fun prog w A R s h => by
 obtain ⟨hp,g,d,tk,os⟩:=s
 obtain ⟨q1,q2,q⟩:=h
 have hsub:=sub_zip
 have p1 : Sq k1 (Shared.heap ⟨hp,g,d,tk,os⟩) a xs:=q1
 have p2 : Sq k2 (Shared.heap ⟨hp.push (kK k1 a),g,d,tk,os⟩) b ys:=Sq.up q2 fun o e => Heap.get?_push_of_some _ e
 wp_walk using MN p1,MN p2
 exact ⟨_,rfl,q⟩
section
variable {prog : Program} {w : World} {A : Around} {E : Value → Shared → Prop} {s : Shared}
theorem adE {k1 k2 : SK} {a b : Addr} {xs ys : Array Value} {Q : Value → Shared → Prop} (q1 : Sq k1 s.heap a xs) (q2 : Sq k2 s.heap b ys)
 (q : ∀ h',IsZip h' (s.heap.objs.size + 4) (s.heap.objs.size + 2) (s.heap.objs.size + 3) .none → IsPair h' (s.heap.objs.size + 2) (.ref s.heap.objs.size) (.ref (s.heap.objs.size + 1)) →
  IsPair h' (s.heap.objs.size + 3) .none .none → cH k1 h' s.heap.objs.size a 0 → cH k2 h' (s.heap.objs.size + 1) b 0 → h'.objs.size = s.heap.objs.size + 5 →
  (∀ c o,s.heap.get? c = some o → h'.get? c = some o) → Q (.ref (s.heap.objs.size + 4)) { s with heap:=h' }) : wpAny (model prog w) A (call (.type "zip") [.ref a,.ref b]) Q E s:=by
 refine callType_new F.called_zip (by decide) (F.typeCall_zip_2 _ _) (F.newCall_zip_2 _ _) (fun obj => F.args_object_init_3 obj _ _) F.entry_zip_new (aa5 k1 k2 a b xs ys) ⟨q1,q2,?_⟩
 have z1 : (mV k1 s.heap a).objs.size = s.heap.objs.size + 1:=Heap.size_push ..
 have z2 : (mU k1 k2 s.heap a b).objs.size = s.heap.objs.size + 2:=by rw [Heap.size_push,z1]
 have z3 : (mT k1 k2 s.heap a b).objs.size = s.heap.objs.size + 3:=by rw [Heap.size_push,z2]
 have z4 : (mS k1 k2 s.heap a b).objs.size = s.heap.objs.size + 4:=by rw [Heap.size_push,z3]
 have z5 : (e8 k1 k2 s.heap a b).objs.size = s.heap.objs.size + 5:=by rw [Heap.size_push,z4]
 have u1 : ∀ c o,(mS k1 k2 s.heap a b).get? c = some o → (e8 k1 k2 s.heap a b).get? c = some o:=fun c o e => Heap.get?_push_of_some _ e
 have u2 : ∀ c o,(mT k1 k2 s.heap a b).get? c = some o → (e8 k1 k2 s.heap a b).get? c = some o:=fun c o e => u1 c o (Heap.get?_push_of_some _ e)
 have u3 : ∀ c o,(mU k1 k2 s.heap a b).get? c = some o → (e8 k1 k2 s.heap a b).get? c = some o:=fun c o e => u2 c o (Heap.get?_push_of_some _ e)
 have u4 : ∀ c o,(mV k1 s.heap a).get? c = some o → (e8 k1 k2 s.heap a b).get? c = some o:=fun c o e => u3 c o (Heap.get?_push_of_some _ e)
 have e5 : (e8 k1 k2 s.heap a b).get? (mS k1 k2 s.heap a b).objs.size = some _:=Heap.get?_push_size _ rfl
 have e4 : (e8 k1 k2 s.heap a b).get? (mT k1 k2 s.heap a b).objs.size = some _:=u1 _ _ (Heap.get?_push_size _ rfl)
 have e3 : (e8 k1 k2 s.heap a b).get? (mU k1 k2 s.heap a b).objs.size = some _:=u2 _ _ (Heap.get?_push_size _ rfl)
 have e2 : (e8 k1 k2 s.heap a b).get? (mV k1 s.heap a).objs.size = some _:=u3 _ _ (Heap.get?_push_size _ rfl)
 have e1 : (e8 k1 k2 s.heap a b).get? s.heap.objs.size = some _:=u4 _ _ (Heap.get?_push_size _ rfl)
 show _ ∧ _
 rw [z2,z3,z4] at e5
 rw [z1,z2] at e3
 rw [z3] at e4
 rw [z1] at e2
 rw [z4]
 exact ⟨⟨_,e5,rfl⟩,q _ e5 e3 e4 ⟨_,e1,rfl,rfl⟩ ⟨_,e2,rfl,rfl⟩ z5 fun c o y => u4 c o (Heap.get?_push_of_some _ y)⟩
end
theorem aa7 (a : Addr) (xs : Array Value) (n : Nat) (dct : Option Addr) (sl : Array (Option Value)) : Meets (Builtin.«enumerate.__new__» ⟨[.type "enumerate",.ref a],[]⟩) (fun _ R s => s.heap.get? a = some { cls:=.type "tuple",dict:=dct,data:=.seq xs n,slots:=sl } ∧
 R (.ok (.ret (.ref (s.heap.push (kK .t a)).objs.size))) { s with heap:=(s.heap.push (kK .t a)).push { cls:=.type "enumerate",data:=.fields #[.none,.bool false,.ref s.heap.objs.size,rawInt 0,.none,.none] } }):=.of_wp fun prog w A R s h => by
 obtain ⟨hp,g,d,tk,os⟩:=s
 obtain ⟨ha,q⟩:=h
 have hsub:=sub_enumerate
 have p : Heap.IsTuple (Shared.heap ⟨hp,g,d,tk,os⟩) a xs:=⟨_,ha,rfl,n,rfl⟩
 wp_walk using AutoSeq1.wpAny_loadPart' ha
 refine wpAny_stack_any fun st => wpAny_pure ?_
 split
 ·rename_i c _ _ _ _ _
  cases (c == Value.type "enumerate")
  ·wp_walk using AutoSeq1.wpAny_loadPart' ha,wpAny_pyIter_tuple p
   exact ⟨_,rfl,q⟩
  ·wp_walk using AutoSeq1.wpAny_loadPart' ha,wpAny_pyIter_tuple p
   exact ⟨_,rfl,q⟩
 ·wp_walk using AutoSeq1.wpAny_loadPart' ha,wpAny_pyIter_tuple p
  exact ⟨_,rfl,q⟩
section
variable {prog : Program} {w : World} {A : Around} {E : Value → Shared → Prop} {s : Shared}
theorem adI {a : Addr} {xs : Array Value} {Q : Value → Shared → Prop} (hq : Sq .t s.heap a xs)
 (q : ∀ h',IsEnum h' (s.heap.objs.size + 1) s.heap.objs.size 0 .none → cH .t h' s.heap.objs.size a 0 → h'.objs.size = s.heap.objs.size + 2 → (∀ b o,s.heap.get? b = some o → h'.get? b = some o) → Q (.ref (s.heap.objs.size + 1)) { s with heap:=h' }) :
 wpAny (model prog w) A (call (.type "enumerate") [.ref a]) Q E s:=by
 obtain ⟨⟨c,dct,dt,sl⟩,ha,hc,n,hd⟩:=hq
 replace hc : c = .type "tuple":=hc
 replace hd : dt = .seq xs n:=hd
 subst hc hd
 refine callType_new F.called_enumerate (by decide) (F.typeCall_enumerate_1 _) (F.newCall_enumerate_1 _) (fun obj => F.args_object_init_2 obj _) F.entry_enumerate_new (aa7 a xs n dct sl) ⟨ha,?_⟩
 have hz : (s.heap.push (kK .t a)).objs.size = s.heap.objs.size + 1:=Heap.size_push ..
 show _ ∧ _
 rw [hz]
 have he : IsEnum ((s.heap.push (kK .t a)).push { cls:=.type "enumerate",data:=.fields #[.none,.bool false,.ref s.heap.objs.size,rawInt 0,.none,.none] }) (s.heap.objs.size + 1) s.heap.objs.size 0 .none:=by
  have:=Heap.get?_push_size (s.heap.push (kK .t a)) (o:={ cls:=.type "enumerate",data:=.fields #[.none,.bool false,.ref s.heap.objs.size,rawInt 0,.none,.none] }) rfl
  rw [hz] at this; exact this
 exact ⟨⟨_,he,rfl⟩,q _ he ⟨_,Heap.get?_push_of_some _ (Heap.get?_push_size _ rfl),rfl,rfl⟩ (by rw [Heap.size_push,hz]) fun b o y => Heap.get?_push_of_some _ (Heap.get?_push_of_some _ y)⟩
end
end ShV
end
section
namespace L2
open PySem PySem.Spec PyProof.Rows
section
variable {P : Program} {w : World} {H : Hp} {h : Heap} {a : Addr}
theorem qB {kvs : List (List Key × V)} (ok : bT P w H h) (e : Rd H a (.dT kvs)) : kvs.length ≤ sizeLine ∧ (a == sysModules) = false ∧ ∃ o es ep,ShV.Ent h a o es ep ∧ es.size = kvs.length ∧
 ∀ (i : Nat) (k : List Key) (v : V),kvs[i]? = some (k,v) → ∃ (en : DictEntry) (q : Addr),es[i]? = some en ∧ en.key = .ref q ∧ H q = some (.tup (k.map kV)) ∧ RelV v en.val:=by
 obtain ⟨z,y,xs,r,o,es,ep,h1,h2,h3,h4,h5⟩:=(show bZ P w H h a (.dT kvs) from uy ok e)
 refine ⟨z,y,o,es,ep,⟨h1,h2,h3⟩,?_,fun i k v e => ?_⟩
 ·have l1 : es.size = xs.length:=size_of_entries h4
  have l2 : kvs.length = xs.length:=Paired.length r
  omega
 ·obtain ⟨b,hb,e1,e2,e3⟩:=XQ r e
  have q:=entry_at h4 i
  rw [hb] at q
  exact ⟨_,b.2.1,q,rfl,e2,e3⟩
end
section
variable {X : Cx} {pins : List (Addr × Obj)} {σ : St} {H : Hp} {s : Shared} {d : Addr} {o : Obj}
theorem Inv.mL {kvs : List (List Key × V)} (I : Inv X pins σ H s) (h : H d = some (.a7 o (.dT kvs))) : (d == sysModules) = false ∧ ∃ es ep,ShV.Ent s.heap d o es ep ∧ es.size = kvs.length ∧
 ∀ (i : Nat) (k : List Key) (v : V),kvs[i]? = some (k,v) → ∃ (en : DictEntry) (q : Addr),es[i]? = some en ∧ en.key = .ref q ∧ H q = some (.tup (k.map kV)) ∧ RelV v en.val:=by
 obtain ⟨_,hs,o',es,ep,D,hz,ent⟩:=qB I.ax (.inr ⟨o,h⟩)
 have e : s.heap.get? d = some o:=(I.ax d _ h).1
 have eo : o' = o:=Option.some.inj (D.at_.symm.trans e)
 subst eo
 exact ⟨hs,es,ep,D,hz,ent⟩
end
def oF (d : Addr) (o : Obj) (kvs : List (List Key × V)) : It :=
 ⟨fun i H => H d = some (.a7 o (.dT kvs)) ∧ i < kvs.length,fun i H x H' => H' = H ∧ ∃ k,kvs[i]? = some (k,x),fun i H => H d = some (.a7 o (.dT kvs)) ∧ kvs.length ≤ i⟩
def oC (d : Addr) (o : Obj) (kvs : List (List Key × V)) : It :=
 ⟨fun i H => H d = some (.a7 o (.dT kvs)) ∧ i < kvs.length,fun i H x H' => ∃ T k v q,kvs[i]? = some (k,v) ∧ x = .ref T ∧ H T = none ∧ H q = some (.tup (k.map kV)) ∧ H' = upd H T (.tup [.ref q,v]),fun i H => H d = some (.a7 o (.dT kvs)) ∧ kvs.length ≤ i⟩
section
variable {P : Program} {w : World} {K : PySem.W.Frag} {tg : Expr} {d : Addr} {o : Obj} {es : Array DictEntry} {ep : Nat}
theorem S6 {kvs : List (List Key × V)} (it : Addr) (hod : o.data = .dict es ep) : Turn P w K tg (oF d o kvs) [it] it (fun i h => h.IsValIter it d i es.size ep) where
 mem:=by simp
 obj:=fun i h st b hb => by
  have e : b = it:=by simpa using hb
  subst e
  obtain ⟨oi,e,c,dd⟩:=st
  exact ⟨oi,e,fun v z => by rw [dd] at z; cases z⟩
 keep:=fun i h h' st k => st.at fun oi e => k it (by simp) oi e
 item:=by
  intro X hP hw hK hc i pins s σ H E I hf st hg
  subst hP hw hK
  obtain ⟨hd,hi⟩:=hg
  obtain ⟨f0,f1,f2,f3,f4,f5⟩:=hf it (by simp)
  obtain ⟨hs,es',ep',D,hsz,ent⟩:=I.mL hd
  obtain ⟨rfl,rfl⟩:=qD hod D.dat
  obtain ⟨⟨k,v⟩,hkv⟩ : ∃ p,kvs[i]? = some p:=⟨kvs[i],List.getElem?_eq_getElem hi⟩
  obtain ⟨en,q,hen,hkey,hq,rv⟩:=ent i k v hkv
  refine ShV.KZ st D hen fun h' st' sb => ?_
  have I1 : Inv X pins σ H { s with heap:=h' }:=I.turned (t':=s.toks) (fun b ob hb e => (sb.2 b hb).trans e) f0 f1 f3 f4 f5
  obtain ⟨oi,e,c,dd⟩:=id st'
  exact ⟨en.val,rfl,qy (s:={ s with heap:=h' }) e c dd (by decide) ⟨v,H,I1,rv,⟨rfl,k,hkv⟩,st',fun b hb => (hf b hb).1⟩⟩
 done:=by
  intro X hP hw hK hc i pins s σ H E I hf st hg
  subst hP hw hK
  obtain ⟨hd,hi⟩:=hg
  obtain ⟨f0,f1,f2,f3,f4,f5⟩:=hf it (by simp)
  obtain ⟨hs,es',ep',D,hsz,ent⟩:=I.mL hd
  obtain ⟨rfl,rfl⟩:=qD hod D.dat
  exact ShV.NB (I.ok.hd hc) st D (by omega) fun h' eb => ⟨rfl,I.turned (t':=s.toks) (fun b ob hb e => eb b ob hb e) f0 f1 f3 f4 f5⟩
 self:=fun A i s Q E st h => wpAny_pyIter_valiter st h
theorem S9 {kvs : List (List Key × V)} {elts : List Expr} {kk : Nat} {tpos : Pos} (it : Addr) (hod : o.data = .dict es ep) :
 Turn P w K (.Tuple elts kk tpos) (oC d o kvs) [it] it (fun i h => ∃ ok ov,IsItemIter h it d i es.size ep ok ov) where
 mem:=by simp
 obj:=fun i h st b hb => by
  have e : b = it:=by simpa using hb
  subst e
  obtain ⟨ok,ov,e⟩:=st
  exact ⟨_,e,fun v z => nomatch z⟩
 keep:=fun i h h' st k => let ⟨ok,ov,e⟩:=st; ⟨ok,ov,k it (by simp) _ e⟩
 item:=by
  intro X hP hw hK hc i pins s σ H E I hf st hg
  subst hP hw hK
  obtain ⟨hd,hi⟩:=hg
  obtain ⟨hs,es',ep',D,hsz,ent⟩:=I.mL hd
  obtain ⟨rfl,rfl⟩:=qD hod D.dat
  obtain ⟨⟨k,v⟩,hkv⟩ : ∃ p,kvs[i]? = some p:=⟨kvs[i],List.getElem?_eq_getElem hi⟩
  obtain ⟨en,q,hen,hkey,hq,rv⟩:=ent i k v hkv
  obtain ⟨ok,ov,he⟩:=st
  have hlt : it < s.heap.objs.size:=Heap.lt_size he
  refine ShV.aaT he D hen fun h' ho hT hz hk => ?_
  refine ⟨_,rfl,wpAny_letOwnedTupleGo_items (s:={ s with heap:=h' }) ho fun h'' he' sb => ?_⟩
  have hT2 : h''.get? s.heap.objs.size = some { cls:=.type "tuple",data:=.seq #[en.key,en.val] }:=(sb.2 _ (Nat.ne_of_gt hlt)).trans hT
  have new : bZ X.prog X.w (upd H s.heap.objs.size (.tup [.ref q,v])) h'' s.heap.objs.size (.tup [.ref q,v]) :=
   ⟨by show 2 ≤ sizeLine; decide,[en.key,en.val],.cons hkey (.cons rv .nil),⟨_,hT2,rfl,_,rfl⟩⟩
  have I1 : Inv X pins σ (upd H s.heap.objs.size (.tup [.ref q,v])) { s with heap:=h'' } :=
   I.t6 (t':=s.toks) (ch:=[it]) (fun b ob hb e => (sb.2 b (by simpa using hb)).trans (hk b ob (by simpa using hb) e)) hf (Nat.le_refl _) new
  refine ⟨.ref s.heap.objs.size,_,I1,rfl,⟨_,k,v,q,hkv,rfl,I.ax.fresh (Nat.le_refl _),hq,rfl⟩,⟨en.key,en.val,he'⟩,fun b hb => ?_⟩
  have e : b = it:=by simpa using hb
  rw [e,ag (Nat.ne_of_lt hlt)]
  exact (hf it (by simp)).1
 done:=by
  intro X hP hw hK hc i pins s σ H E I hf st hg
  subst hP hw hK
  obtain ⟨hd,hi⟩:=hg
  obtain ⟨f0,f1,f2,f3,f4,f5⟩:=hf it (by simp)
  obtain ⟨hs,es',ep',D,hsz,ent⟩:=I.mL hd
  obtain ⟨rfl,rfl⟩:=qD hod D.dat
  obtain ⟨ok,ov,he⟩:=st
  exact ShV.ada (I.ok.hd hc) he D (by omega) fun h' eb => ⟨rfl,I.turned (t':=s.toks) (fun b ob hb e => eb b ob hb e) f0 f1 f3 f4 f5⟩
 self:=fun A i s Q E st h => let ⟨_,_,e⟩:=st; PySem.W.kcp_self e h
end
def abE (td : TE) : TI:=fun σ H R => td σ H fun x H1 => ∃ d o kvs,x = .ref d ∧ H1 d = some (.a7 o (.dT kvs)) ∧ R (oF d o kvs) H1
def abI (td : TE) : TI:=fun σ H R => td σ H fun x H1 => ∃ d o kvs,x = .ref d ∧ H1 d = some (.a7 o (.dT kvs)) ∧ R (oC d o kvs) H1
def dP (p d : Addr) : HO:=.ext fun h => h.IsValuesView p d
section
variable {X : Cx} {tg e : Expr} {td : TE} {apos cpos : Pos}
theorem Kd (he : PE X e td) (hbase : attributeBase e "values" X.env (eval e X.env) = eval e X.env:=by rfl) (hline : (apos.endLine == cpos.line) = true:=by rfl) : PI X tg (.Call (.Attribute e "values" apos) [] [] cpos) (abE td):=by
 intro pins s σ H R I h
 refine wpAny_Call_method (T:="dict") (id:="dict.values") hbase rfl hline F.plainAttrs_dict F.slot_dict_values F.type_dict_values (aJ (he pins s σ H _ I h) fun u s1 ⟨x,H1,I1,rx,d,o,kvs,ex,hd,q⟩ => ?_)
 subst ex
 obtain rfl : u = Value.ref d:=rx
 obtain ⟨hs,es,ep,D,hsz,ent⟩:=I1.mL hd
 refine ⟨D.ty,fun b z => by cases z; exact ⟨o,D.at_,D.ex.2.1⟩,?_⟩
 have I2 : Inv X pins σ H1 { s1 with heap:=s1.heap.push (ShV.ig "dict_values" d) }:=I1.kept (t':=s1.toks) fun b ob q => Heap.get?_push_of_some _ q
 have fin : wpAny (model X.prog X.w) X.A (pyIter (.ref s1.heap.objs.size)) (sO X pins σ tg R) X.xe { s1 with heap:=s1.heap.push (ShV.ig "dict_values" d) } :=
  ShV.MM (d:=d) ⟨_,Heap.get?_push_size _ rfl,rfl,rfl⟩ (D.up fun o e => Heap.get?_push_of_some _ e) (m6 (tk:=s1.toks) I2 _ (S6 _ D.dat) ⟨_,Heap.get?_push_size _ rfl,rfl,rfl⟩ q)
 show wpAny _ _ (callWith cpos (.builtin "dict.values") [.ref d] [] []) _ X.xe s1
 exact method_meetsIn F.slot_dict_values F.entry_dict_values rfl (PySem.evalArgs_none ⟨rfl,D.ty,F.args_dict_values_1 _,_,ShV.K9 d hs,⟨o,es,ep,D⟩,fin⟩)
theorem XC {elts : List Expr} {kk : Nat} {tpos : Pos} (he : PE X e td) (hbase : attributeBase e "items" X.env (eval e X.env) = eval e X.env:=by rfl) (hline : (apos.endLine == cpos.line) = true:=by rfl) :
 PI X (.Tuple elts kk tpos) (.Call (.Attribute e "items" apos) [] [] cpos) (abI td):=by
 intro pins s σ H R I h
 refine wpAny_Call_method (T:="dict") (id:="dict.items") hbase rfl hline F.plainAttrs_dict F.slot_dict_items F.type_dict_items (aJ (he pins s σ H _ I h) fun u s1 ⟨x,H1,I1,rx,d,o,kvs,ex,hd,q⟩ => ?_)
 subst ex
 obtain rfl : u = Value.ref d:=rx
 obtain ⟨hs,es,ep,D,hsz,ent⟩:=I1.mL hd
 refine ⟨D.ty,fun b z => by cases z; exact ⟨o,D.at_,D.ex.2.1⟩,?_⟩
 have I2 : Inv X pins σ H1 { s1 with heap:=s1.heap.push (ShV.ig "dict_items" d) }:=I1.kept (t':=s1.toks) fun b ob q => Heap.get?_push_of_some _ q
 have fin : wpAny (model X.prog X.w) X.A (pyIter (.ref s1.heap.objs.size)) (sO X pins σ (.Tuple elts kk tpos) R) X.xe { s1 with heap:=s1.heap.push (ShV.ig "dict_items" d) } :=
  ShV.abx (d:=d) ⟨_,Heap.get?_push_size _ rfl,rfl,rfl⟩ (D.up fun o e => Heap.get?_push_of_some _ e) (m6 (tk:=s1.toks) I2 _ (S9 _ D.dat) ⟨.none,.none,Heap.get?_push_size _ rfl⟩ q)
 show wpAny _ _ (callWith cpos (.builtin "dict.items") [.ref d] [] []) _ X.xe s1
 exact method_meetsIn F.slot_dict_items F.entry_dict_items rfl (PySem.evalArgs_none ⟨rfl,D.ty,F.args_dict_items_1 _,_,ShV.aa6 d hs,⟨o,es,ep,D⟩,fin⟩)
def Tp (td : TE) : TE:=fun σ H Q => td σ H fun x H1 => ∃ d kvs,x = .ref d ∧ Rd H1 d (.dT kvs) ∧ ∀ p,H1 p = none → Q (.ref p) (upd H1 p (dP p d))
theorem uS (he : PE X e td) (hbase : attributeBase e "values" X.env (eval e X.env) = eval e X.env:=by rfl) (hline : (apos.endLine == cpos.line) = true:=by rfl) : PE X (.Call (.Attribute e "values" apos) [] [] cpos) (Tp td):=by
 intro pins s σ H Q I h
 refine wpAny_Call_method (T:="dict") (id:="dict.values") hbase rfl hline F.plainAttrs_dict F.slot_dict_values F.type_dict_values (aJ (he pins s σ H _ I h) fun u s1 ⟨x,H1,I1,rx,d,kvs,ex,hd,q⟩ => ?_)
 subst ex
 obtain rfl : u = Value.ref d:=rx
 obtain ⟨_,hs,o,es,ep,D,hsz,ent⟩:=qB I1.ax hd
 refine ⟨D.ty,fun b z => by cases z; exact ⟨o,D.at_,D.ex.2.1⟩,?_⟩
 have hv : (s1.heap.push (ShV.ig "dict_values" d)).IsValuesView s1.heap.objs.size d:=⟨_,Heap.get?_push_size _ rfl,rfl,rfl⟩
 have new : bZ X.prog X.w (upd H1 s1.heap.objs.size (dP s1.heap.objs.size d)) (s1.heap.push (ShV.ig "dict_values" d)) s1.heap.objs.size (dP s1.heap.objs.size d) :=
  ⟨hv,⟨_,Heap.get?_push_size _ rfl⟩,fun h1 h2 ⟨z,e1,e2,e3⟩ k => ⟨z,k _ e1,e2,e3⟩⟩
 have I2 : Inv X pins σ (upd H1 s1.heap.objs.size (dP s1.heap.objs.size d)) { s1 with heap:=s1.heap.push (ShV.ig "dict_values" d) }:=I1.laid (t':=s1.toks) (fun b ob q => Heap.get?_push_of_some _ q) (Nat.le_refl _) new
 show wpAny _ _ (callWith cpos (.builtin "dict.values") [.ref d] [] []) _ X.xe s1
 exact method_meetsIn F.slot_dict_values F.entry_dict_values rfl (PySem.evalArgs_none ⟨rfl,D.ty,F.args_dict_values_1 _,_,ShV.K9 d hs,⟨o,es,ep,D⟩,⟨.ref s1.heap.objs.size,_,I2,rfl,q _ (I1.ax.fresh (Nat.le_refl _))⟩⟩)
end
theorem F0 : ∀ (xs : List V) (us : List Value),xs.length = us.length → (∀ (i : Nat) (x : V) (u : Value),xs[i]? = some x → us[i]? = some u → RelV x u) → Vals xs us
 | [],[],_,_ => .nil
 | [],_ :: _,h,_ => by simp at h
 | _ :: _,[],h,_ => by simp at h
 | x :: xs,u :: us,h,r => .cons (r 0 x u rfl rfl) (F0 xs us (by simpa using h) fun i y v e1 e2 => r (i + 1) y v (by simpa using e1) (by simpa using e2))
section
variable {X : Cx}
theorem CO (hc : X.calm = true) : ic X (.type "list") (fun xs H Q => ∃ p d kvs,xs = [.ref p] ∧ H p = some (dP p d) ∧ Rd H d (.dT kvs) ∧ ∀ l,H l = none → Q (.ref l) (upd H l (.lst (kvs.map (·.2))))):=by
 intro pins s σ H xs us Q I r h
 obtain ⟨p,d,kvs,rfl,hp,hd,q⟩:=h
 obtain ⟨u,rfl,rx⟩:=vals1 r
 cases rx
 obtain ⟨hz,hs,o,es,ep,D,hsz,ent⟩:=qB I.ax hd
 have hv : s.heap.IsValuesView p d:=(show bZ X.prog X.w H s.heap p (dP p d) from I.ax p _ hp).1
 refine ShV.abe (I.ok.hd hc) hv D (by omega) fun h' tk acc c' kp e hacc => ?_
 have rv : Vals (kvs.map (·.2)) acc.toList:=by
  refine F0 _ _ ?_ fun i x u e1 e2 => ?_
  ·rw [List.length_map]
   have e1 : acc.toList.length = acc.size:=Array.length_toList
   have e2:=hacc.1
   omega
  ·rw [List.getElem?_map] at e1
   cases ek : kvs[i]? with
   | none => rw [ek] at e1; cases e1
   | some kv =>
     obtain ⟨k,v⟩:=kv
     rw [ek] at e1
     obtain rfl : v = x:=Option.some.inj e1
     obtain ⟨en,z,f1,f2,f3,f4⟩:=ent i k v ek
     obtain ⟨en',g1,g2⟩:=hacc.2 i u (by simpa using e2)
     rw [f1] at g1
     cases g1
     rw [g2]
     exact f4
 exact ⟨.ref s.heap.objs.size,_,I.laid (t':=tk) kp (Nat.le_refl _) (show bZ X.prog X.w _ h' _ (.lst (kvs.map (·.2))) from ⟨by rw [List.length_map]; exact hz,acc.toList,c',rv,e⟩),rfl,q _ (I.ax.fresh (Nat.le_refl _))⟩
theorem adG : ic X (.builtin "len") (fun xs H Q => ∃ a kvs,xs = [V.ref a] ∧ Rd H a (.dT kvs) ∧ Q (.int kvs.length) H):=by
 intro pins s σ H xs us Q I r h
 obtain ⟨a,kvs,rfl,hd,q⟩:=h
 obtain ⟨u,rfl,rx⟩:=vals1 r
 cases rx
 obtain ⟨hz,hs,o,es,ep,D,hsz,ent⟩:=qB I.ax hd
 have hl:=qo
 refine call_len_slot (n:=(kvs.length : Nat)) D.ty F.slot_dict_len (fun Q' hq => wpAny_call_entry F.slot_dict_len D.ty F.entry_dict_len ?_ (F.args_dict_len_1 _)) (by omega) (by omega) ⟨.int kvs.length,H,I.tok _,⟨_,rfl⟩,q⟩
 show wpAny _ _ (dictSize a >>= _) _ _ s
 unfold dictSize
 refine wpAny_bind (wpAny_bind (wpAny_dictEntries D.at_ D.dat (wpAny_pure ?_)))
 show wpAny _ _ (Builtin.Dict.pendingCount a >>= _) _ _ s
 refine wpAny_bind (wpAny_pendingCount_other hs ?_)
 refine wpAny_ret_mkInt ?_
 have e0 : ((es.size : Nat) : Int) + ((0 : Nat) : Int) = (kvs.length : Int):=by omega
 rw [e0]
 exact hq
end
theorem Lz {d : Addr} {o : Obj} {kvs : List (List Key × V)} {g : TG} {tt : TT} {te : TE} {vs : List Nat} {σ : St} {H1 : Hp} {D : Addr} {Qd : Hp → Prop} (Pv : Nat → Hp → Prop) (h0 : Pv 0 (upd H1 D (.lst []))) (hl : ∀ i H,i ≤ kvs.length → Pv i H → H d = some (.a7 o (.dT kvs)))
 (hs : ∀ i k x H,kvs[i]? = some (k,x) → Pv i H → g x (wipe σ vs) H fun σ2 H2 => wipe σ2 vs = wipe σ vs ∧ tt σ2 H2 fun b H3 =>
  if b = true then te σ2 H3 fun y H4 => ∃ acc,H4 D = some (.lst acc) ∧ acc.length < sizeLine ∧ Pv (i + 1) (upd H4 D (.lst (acc ++ [y]))) else Pv (i + 1) H3) (hd : ∀ H,Pv kvs.length H → Qd H) :
 ∃ W : Nat → Nat → Hp → Prop,(∃ m,W 0 m (upd H1 D (.lst []))) ∧ ∀ i m H,W i m H →
  ((oF d o kvs).stop i H ∧ Qd H) ∨ ((oF d o kvs).go i H ∧ ∃ Nx : Hp → Prop,(∀ H',Nx H' → ∃ m',m' < m ∧ W (i + 1) m' H') ∧ ∀ x H',(oF d o kvs).e9 i H x H' → g x (wipe σ vs) H' fun σ2 H2 => wipe σ2 vs = wipe σ vs ∧ tt σ2 H2 fun b H3 =>
    if b = true then te σ2 H3 fun y H4 => ∃ acc,H4 D = some (.lst acc) ∧ acc.length < sizeLine ∧ Nx (upd H4 D (.lst (acc ++ [y]))) else Nx H3):=by
 refine ⟨fun i m H => m = kvs.length - i ∧ i ≤ kvs.length ∧ Pv i H,⟨kvs.length,by simp,Nat.zero_le _,h0⟩,?_⟩
 rintro i m H ⟨rfl,hi,p⟩
 have q:=hl i H hi p
 by_cases hlt : i < kvs.length
 ·refine .inr ⟨⟨q,hlt⟩,Pv (i + 1),fun H' p' => ⟨kvs.length - (i + 1),by omega,rfl,hlt,p'⟩,fun x H' y => ?_⟩
  obtain ⟨e,k,y⟩:=y
  subst e
  exact hs i k x _ y p
 ·have e : i = kvs.length:=by omega
  subst e
  exact .inl ⟨⟨q,Nat.le_refl _⟩,hd H p⟩
theorem acY {d : Addr} {o : Obj} {kvs : List (List Key × V)} {g : TG} {tb : TS} {D : Ends} {σ : St} {H : Hp} (Pv : Nat → St → Hp → Prop) (h0 : Pv 0 σ H) (hl : ∀ i σ H,i ≤ kvs.length → Pv i σ H → H d = some (.a7 o (.dT kvs)))
 (hs : ∀ i k v T q σ H,kvs[i]? = some (k,v) → H T = none → H q = some (.tup (k.map kV)) → Pv i σ H → g (.ref T) σ (upd H T (.tup [.ref q,v])) fun σ2 H2 => tb { D with nx:=Pv (i + 1),ct:=Pv (i + 1),bk:=D.nx } σ2 H2) (hd : ∀ σ H,Pv kvs.length σ H → D.nx σ H) :
 ∃ W : Nat → Nat → St → Hp → Prop,(∃ m,W 0 m σ H) ∧ ∀ i m σ H,W i m σ H →
  ((oC d o kvs).stop i H ∧ D.nx σ H) ∨ ((oC d o kvs).go i H ∧ ∃ N : St → Hp → Prop,(∀ σ' H',N σ' H' → ∃ m',m' < m ∧ W (i + 1) m' σ' H') ∧ ∀ x H',(oC d o kvs).e9 i H x H' → g x σ H' fun σ2 H2 => tb { D with nx:=N,ct:=N,bk:=D.nx } σ2 H2):=by
 refine ⟨fun i m σ H => m = kvs.length - i ∧ i ≤ kvs.length ∧ Pv i σ H,⟨kvs.length,by simp,Nat.zero_le _,h0⟩,?_⟩
 rintro i m σ H ⟨rfl,hi,p⟩
 have q:=hl i σ H hi p
 by_cases hlt : i < kvs.length
 ·refine .inr ⟨⟨q,hlt⟩,Pv (i + 1),fun σ' H' p' => ⟨kvs.length - (i + 1),by omega,rfl,hlt,p'⟩,fun x H' y => ?_⟩
  obtain ⟨T,k,v,z,e1,e2,e3,e4,e5⟩:=y
  subst e2 e5
  exact hs i k v T z σ H e1 e3 e4 p
 ·have e : i = kvs.length:=by omega
  subst e
  exact .inl ⟨⟨q,Nat.le_refl _⟩,hd σ H p⟩
def T5 (X : Cx) (tf : TE) (t : TA) : TE:=fun σ H Q => tf σ H fun x H1 => ∃ f k fd ps sp,x = .ref f ∧ aE X.prog X.w X.K X.mg X.base aQ k f fd ps sp ∧ aq k X.A ∧ PySem.W.keepIn X.K (.ref f) = true ∧ Binds X.K fd ps [] ∧ t σ H1 fun vs H2 => sp vs H2 Q E0
theorem XO {X : Cx} {fe e : Expr} {es : List Expr} {pos : Pos} {tf : TE} {t : TA} (hf : PE X fe tf) (ha : PA X (e :: es) t)
 (hc : eval (.Call fe (e :: es) [] pos) X.env = (do callWith pos (← eval fe X.env) [] (backTo pos (starEach (e :: es) X.env)) (backToKw pos (keywordEach [] X.env))):=by rfl)
 (he : starEach (e :: es) X.env = (false,eval e X.env) :: starEach es X.env:=by rfl) (hpl : (backTo pos (starEach es X.env)).any (·.1) = false:=by rfl) :
 PE X (.Call fe (e :: es) [] pos) (T5 X tf t):=by
 intro pins s σ H Q I h
 refine Call_ (aJ (hf pins s σ H _ I h) fun u s1 ⟨x,H1,I1,rx,f,k,fd,ps,sp,ex,F,hr,hk,hb,q⟩ => ?_) hc
 subst ex
 obtain rfl : u = Value.ref f:=rx
 refine PySem.W.callWith_K (h₀:=X.base) I.ok.mod.mz hk (aJ (ha pos pins s1 σ H1 _ I1 q) fun us s2 ⟨vs,H2,I2,r,q2⟩ => ⟨I2.dj,?_⟩) he hpl
 exact o6 F hr hb .nil aB I2 r (by rw [List.append_nil]; exact q2)
structure mQ (P : Params) (K : PySem.W.Frag) (a : Addr) (kvs : List (Str × V)) : Prop where
 ex : ∃ (es : Array DictEntry) (n : Nat),K.lookup a = some ⟨.type "dict",none,.dict es n,#[]⟩ ∧ PySem.W.KeysLit P es.toList ∧ Paired (fun (p : Str × V) (e : DictEntry) => (∃ t,e.key = .str p.1 t) ∧ RelV p.2 e.val) kvs es.toList
 lo : (a == sysModules) = false
theorem ac4 {x : Str} : ∀ {kvs : List (Str × V)} {l : List DictEntry},Paired (fun (p : Str × V) (e : DictEntry) => (∃ t,e.key = .str p.1 t) ∧ RelV p.2 e.val) kvs l → cM (kvs.lookup x) ((l.find? fun e => Value.isStrOf x e.key).map (·.val)):=by
 intro kvs l h
 induction h with
 | nil => exact True.intro
 | @cons p e ps es hp t ih =>
   obtain ⟨⟨t0,hk⟩,rv⟩:=hp
   obtain ⟨k,v⟩:=p
   show cM (match x == k with | true => some v | false => ps.lookup x) _
   by_cases c : x = k
   ·subst c
    rw [beq_self_eq_true,List.find?_cons_of_pos (by rw [hk]; simp [Value.isStrOf])]
    exact rv
   ·rw [beq_eq_false_iff_ne.mpr c,List.find?_cons_of_neg (by rw [hk]; simp [Value.isStrOf]; first | exact c | exact fun z => c z.symm)]
    exact ih
def TN (kvs : List (Str × V)) (ty : TE) : TE:=fun σ H Q => ty σ H fun y H1 => ∃ x,y = .str x ∧ Q (.bl (kvs.lookup x).isSome) H1
def TU (kvs : List (Str × V)) (ty : TE) : TE:=fun σ H Q => ty σ H fun y H1 => ∃ x v,y = .str x ∧ kvs.lookup x = some v ∧ Q v H1
section
variable {X : Cx} {a : Addr} {kvs : List (Str × V)} {i o : Expr} {ty : TE} {pos : Pos}
theorem mQ.find {P : Params} {K : PySem.W.Frag} {es : Array DictEntry} {x : Str} (h : Paired (fun (p : Str × V) (e : DictEntry) => (∃ t,e.key = .str p.1 t) ∧ RelV p.2 e.val) kvs es.toList) : cM (kvs.lookup x) (findBy Value.isStrOf es x):=by
 have:=ac4 (x:=x) h
 unfold findBy
 obtain ⟨l⟩:=es
 rw [List.find?_toArray]
 exact this
theorem Kl (T : mQ X.w.params X.K a kvs) (hi : PE X i ty) (ho : PE X o (tC (.ref a))) : PC X .In i o (TN kvs ty):=by
 intro pins s σ H Q I h
 refine aJ (hi pins s σ H _ I h) fun iv s1 ⟨y,H1,I1,ry,x,ey,q1⟩ => aJ (ho pins s1 σ H1 _ I1 (show tC (.ref a) σ H1 (fun v H2 => v = .ref a ∧ H2 = H1) from ⟨rfl,rfl⟩)) fun u s2 ⟨v,H2,I2,rx,ev,eH⟩ => ?_
 subst ey ev eH
 obtain rfl : u = Value.ref a:=rx
 obtain ⟨t,rfl⟩:=(show ∃ t,iv = Value.str x t from ry)
 obtain ⟨es,n,h1,h2,h3⟩:=T.ex
 refine wpAny_in_of (strKind_is X.prog X.w x t) T.lo (PySem.W.mapOf_K (prog:=X.prog) (w:=X.w) I2.dj h1 h2) ?_
 rw [← (mQ.find (P:=X.w.params) (K:=X.K) (x:=x) h3).mG]
 exact ⟨.bl (kvs.lookup x).isSome,H2,I2.tok _,rfl,q1⟩
theorem XM (T : mQ X.w.params X.K a kvs) (ho : PE X o (tC (.ref a))) (hi : PE X i ty) (hs : EW i) : PE X (.Subscript o i pos) (TU kvs ty):=by
 intro pins s σ H Q I h
 obtain ⟨es,n,h1,h2,h3⟩:=T.ex
 refine GX PySem.F.slot_dict_getitem.lookup hs (aJ (ho pins s σ H _ I (show tC (.ref a) σ H (fun v H2 => v = .ref a ∧ H2 = H) from ⟨rfl,rfl⟩)) fun u s1 ⟨v,H1,I1,rx,ev,eH⟩ => ?_)
 subst ev eH
 obtain rfl : u = Value.ref a:=rx
 refine aJ (hi pins s1 σ H1 _ I1 h) fun iv s2 ⟨y,H2,I2,ry,x,v,ey,e,q2⟩ => ?_
 subst ey
 obtain ⟨t,rfl⟩:=(show ∃ t,iv = Value.str x t from ry)
 have m:=PySem.W.mapOf_K (prog:=X.prog) (w:=X.w) I2.dj h1 h2
 obtain ⟨u,hu,ru⟩:=cM.some_of (v:=v) (o:=findBy Value.isStrOf es x) (by rw [← e]; exact mQ.find (P:=X.w.params) (K:=X.K) h3)
 exact ⟨m.typeIs,wpAny_getItem_of (strKind_is X.prog X.w x t) m hu ⟨v,H2,I2.tok _,ru,q2⟩⟩
end
inductive TD where
 | i (n : Int)
 | s (x : Str)
 | t (l : List TD)
def cy (K : PySem.W.Frag) : Nat → Value → TD → Bool
 | _,.int n _,.i m => n == m
 | _,.str x _,.s y => x == y
 | k + 1,.ref a,.t l => match K.lookup a with
   | some o => (match o.cls with | .type T => T == "tuple" | _ => false) && (match o.data with | .seq its _ => decide (its.size ≤ sizeLine) && (its.size == l.length && (its.toList.zip l).all fun p => cy K k p.1 p.2) | _ => false)
   | none => false
 | _,_,_ => false
def cB (K : PySem.W.Frag) : Nat → V → TD → Prop
 | _,v,.i n => v = .int n
 | _,v,.s x => v = .str x
 | 0,_,.t _ => False
 | k + 1,v,.t l => ∃ a xs,v = .ref a ∧ (∀ H,a4 K H a xs) ∧ xs.length = l.length ∧ ∀ (i : Nat) (x : V) (d : TD),xs[i]? = some x → l[i]? = some d → cB K k x d
theorem GQ {K : PySem.W.Frag} {k : Nat} (ih : ∀ u d,cy K k u d = true → ∃ v,RelV v u ∧ cB K k v d) : ∀ (us : List Value) (l : List TD),us.length = l.length → ((us.zip l).all fun p => cy K k p.1 p.2) = true →
 ∃ xs,Vals xs us ∧ xs.length = l.length ∧ ∀ (i : Nat) (x : V) (d : TD),xs[i]? = some x → l[i]? = some d → cB K k x d
 | [],[],_,_ => ⟨[],.nil,rfl,fun i x d e => by simp at e⟩
 | [],_ :: _,h,_ => by simp at h
 | _ :: _,[],h,_ => by simp at h
 | u :: us,d :: l,h,b => by
   rw [List.zip_cons_cons,List.all_cons,Bool.and_eq_true] at b
   obtain ⟨v,r,t⟩:=ih u d b.1
   obtain ⟨xs,r2,l2,t2⟩:=GQ ih us l (by simpa using h) b.2
   refine ⟨v :: xs,.cons r r2,by simp [l2],fun i x d' e1 e2 => ?_⟩
   cases i with
   | zero =>
     obtain rfl : v = x:=Option.some.inj e1
     obtain rfl : d = d':=Option.some.inj e2
     exact t
   | succ i => exact t2 i x d' (by simpa using e1) (by simpa using e2)
theorem Tj {K : PySem.W.Frag} : ∀ (k : Nat) (u : Value) (d : TD),cy K k u d = true → ∃ v,RelV v u ∧ cB K k v d:=by
 intro k
 induction k with
 | zero =>
   intro u d h
   cases d with
   | i n => cases u <;> first | (rename_i m t; have h' : (m == n) = true:=by { unfold cy at h; exact h }; exact ⟨.int n,⟨t,by rw [eq_of_beq h']⟩,by unfold cB; rfl⟩) | (exact absurd h (by unfold cy; exact Bool.false_ne_true))
   | s x => cases u <;> first | (rename_i m t; have h' : (m == x) = true:=by { unfold cy at h; exact h }; exact ⟨.str x,⟨t,by rw [eq_of_beq h']⟩,by unfold cB; rfl⟩) | (exact absurd h (by unfold cy; exact Bool.false_ne_true))
   | t l => cases u <;> exact absurd h (by unfold cy; exact Bool.false_ne_true)
 | succ k ih =>
   intro u d h
   cases d with
   | i n => cases u <;> first | (rename_i m t; have h' : (m == n) = true:=by { unfold cy at h; exact h }; exact ⟨.int n,⟨t,by rw [eq_of_beq h']⟩,by unfold cB; rfl⟩) | (exact absurd h (by unfold cy; exact Bool.false_ne_true))
   | s x => cases u <;> first | (rename_i m t; have h' : (m == x) = true:=by { unfold cy at h; exact h }; exact ⟨.str x,⟨t,by rw [eq_of_beq h']⟩,by unfold cB; rfl⟩) | (exact absurd h (by unfold cy; exact Bool.false_ne_true))
   | t l =>
     cases u with
     | ref a =>
       unfold cy at h
       cases ho : K.lookup a with
       | none => rw [ho] at h; cases h
       | some o =>
         rw [ho] at h
         simp only [Bool.and_eq_true] at h
         obtain ⟨h1,h2⟩:=h
         cases hd : o.data with
         | seq its n =>
           rw [hd] at h2
           simp only [Bool.and_eq_true,decide_eq_true_eq] at h2
           obtain ⟨z,e,al⟩:=h2
           obtain ⟨xs,r,hl,tt⟩:=GQ ih its.toList l (by rw [Array.length_toList]; exact eq_of_beq e) al
           have hc : o.cls = .type "tuple":=by
            revert h1
            cases o.cls <;> intro h1 <;> first | (rw [eq_of_beq h1]) | cases h1
           refine ⟨.ref a,rfl,?_⟩
           unfold cB
           exact ⟨a,xs,rfl,fun H => .inr ⟨o,its,n,ho,hc,hd,z,r⟩,hl,tt⟩
         | _ => rw [hd] at h2; cases h2
     | _ => exact absurd h (by unfold cy; exact Bool.false_ne_true)
def cj (k : ShV.SK) (K : PySem.W.Frag) (H : Hp) (a : Addr) (xs : List V) : Prop:=match k with
 | .l => az K H a xs
 | .t => a4 K H a xs
theorem cj.at {k : ShV.SK} {X : Cx} {pins : List (Addr × Obj)} {σ : St} {H : Hp} {s : Shared} {a : Addr} {xs : List V} (I : Inv X pins σ H s) (h : cj k X.K H a xs) : ∃ its : List Value,Vals xs its ∧ ShV.Sq k s.heap a its.toArray:=by
 cases k with
 | l =>
   obtain ⟨its,r,p,_⟩:=I.list h
   exact ⟨its,r,p.isList⟩
 | t =>
   obtain ⟨its,r,p,_⟩:=I.tuple h
   exact ⟨its,r,p⟩
theorem cj.inj {k : ShV.SK} {X : Cx} {pins : List (Addr × Obj)} {σ : St} {H : Hp} {s : Shared} {a : Addr} {xs ys : List V} (I : Inv X pins σ H s) (h : cj k X.K H a xs) (h' : cj k X.K H a ys) : xs = ys:=by
 obtain ⟨is,r1,o1,e1,_,n1,d1⟩:=cj.at I h
 obtain ⟨js,r2,o2,e2,_,n2,d2⟩:=cj.at I h'
 rw [e1] at e2
 cases e2
 rw [d1] at d2
 have e : is = js:=by
  have:=congrArg Array.toList (Data.seq.inj d2).1
  simpa using this
 subst e
 exact r1.inj r2
def oz (k1 k2 : ShV.SK) (K : PySem.W.Frag) (a b : Addr) : It :=
 ⟨fun i H => ∃ (xs ys : List V) (x y : V),cj k1 K H a xs ∧ cj k2 K H b ys ∧ xs[i]? = some x ∧ ys[i]? = some y,
  fun i H v H' => ∃ T x y,v = .ref T ∧ H T = none ∧ H' = upd H T (.tup [x,y]) ∧ (∀ xs,cj k1 K H a xs → xs[i]? = some x) ∧ ∀ ys,cj k2 K H b ys → ys[i]? = some y,
  fun i H => ∃ xs ys : List V,cj k1 K H a xs ∧ cj k2 K H b ys ∧ (xs.length ≤ i ∨ ys.length ≤ i)⟩
theorem S5 {k1 k2 : ShV.SK} {P : Program} {w : World} {K : PySem.W.Frag} {elts : List Expr} {kk : Nat} {tpos : Pos} {a b z TI TO i1 i2 : Addr} (D : ZipApart z TI TO i1 i2 a b) :
 Turn P w K (.Tuple elts kk tpos) (oz k1 k2 K a b) [z,TI,TO,i1,i2] z (fun i h => IsZip h z TI TO .none ∧ IsPair h TI (.ref i1) (.ref i2) ∧ (∃ x y,IsPair h TO x y) ∧ ShV.cH k1 h i1 a i ∧ ShV.cH k2 h i2 b i) where
 mem:=by simp
 obj:=fun i h st c hc => by
  obtain ⟨hz,hTI,⟨x,y,hTO⟩,⟨o1,e1,_,d1⟩,⟨o2,e2,_,d2⟩⟩:=st
  have e' : c = z ∨ c = TI ∨ c = TO ∨ c = i1 ∨ c = i2:=by simpa using hc
  rcases e' with q | q | q | q | q
  ·rw [q]; exact ⟨_,hz,fun v q => nomatch q⟩
  ·rw [q]; exact ⟨_,hTI,fun v q => nomatch q⟩
  ·rw [q]; exact ⟨_,hTO,fun v q => nomatch q⟩
  ·rw [q]; exact ⟨o1,e1,fun v q => by rw [d1] at q; cases q⟩
  ·rw [q]; exact ⟨o2,e2,fun v q => by rw [d2] at q; cases q⟩
 keep:=fun i h h' st k => by
  obtain ⟨hz,hTI,⟨x,y,hTO⟩,h1,h2⟩:=st
  exact ⟨k z (by simp) _ hz,k TI (by simp) _ hTI,⟨x,y,k TO (by simp) _ hTO⟩,h1.up fun o q => k i1 (by simp) o q,h2.up fun o q => k i2 (by simp) o q⟩
 item:=by
  intro X hP hw hK hc i pins s σ H E I hf st hg
  subst hP hw hK
  obtain ⟨hz,hTI,⟨x0,y0,hTO⟩,h1,h2⟩:=st
  obtain ⟨xs,ys,x,y,hqx,hqy,hx,hy⟩:=hg
  obtain ⟨its,rv,p⟩:=cj.at I hqx
  obtain ⟨its2,rv2,p2⟩:=cj.at I hqy
  obtain ⟨u,hu,ru⟩:=rv.get hx
  obtain ⟨u2,hu2,ru2⟩:=rv2.get hy
  have hzl : z < s.heap.objs.size:=Heap.lt_size hz
  refine ShV.aaS D hz hTI hTO h1 h2 p p2 (x:=u) (y:=u2) (by simpa using hu) (by simpa using hu2) fun h' z' TO' h1' h2' hT hsz hk => ?_
  refine ⟨_,rfl,wpAny_letOwnedTupleGo_zip (s:={ s with heap:=h' }) z' fun h'' z'' sb => ?_⟩
  have hT2 : h''.get? s.heap.objs.size = some { cls:=.type "tuple",data:=.seq #[u,u2] }:=(sb.2 _ (Nat.ne_of_gt hzl)).trans hT
  have new : bZ X.prog X.w (upd H s.heap.objs.size (.tup [x,y])) h'' s.heap.objs.size (.tup [x,y]) :=
   ⟨by show 2 ≤ sizeLine; decide,[u,u2],.cons ru (.cons ru2 .nil),⟨_,hT2,rfl,_,rfl⟩⟩
  have I1 : Inv X pins σ (upd H s.heap.objs.size (.tup [x,y])) { s with heap:=h'' } :=
   I.t6 (t':=s.toks) (ch:=[z,TI,TO,i1,i2]) (fun c o hb q => (sb.2 c (fun q' => hb (by simp [q']))).trans (hk c o (fun q' => hb (by simp [q'])) (fun q' => hb (by simp [q'])) (fun q' => hb (by simp [q'])) (fun q' => hb (by simp [q'])) q)) hf (Nat.le_refl _) new
  refine ⟨.ref s.heap.objs.size,_,I1,rfl,⟨_,x,y,rfl,I.ax.fresh (Nat.le_refl _),rfl,fun l hl => by rw [cj.inj I hl hqx]; exact hx,fun l hl => by rw [cj.inj I hl hqy]; exact hy⟩,⟨z'',?_,⟨u,u2,?_⟩,?_,?_⟩,fun c hcm => ?_⟩
  ·exact (sb.2 _ D.TIz).trans (hk _ _ D.TIz D.TITO D.TIi1 D.TIi2 hTI)
  ·exact (sb.2 _ D.TOz).trans TO'
  ·exact h1'.up fun o q => (sb.2 _ D.i1z).trans q
  ·exact h2'.up fun o q => (sb.2 _ D.i2z).trans q
  ·have hlt : c < s.heap.objs.size:=by
    have e' : c = z ∨ c = TI ∨ c = TO ∨ c = i1 ∨ c = i2:=by simpa using hcm
    rcases e' with q | q | q | q | q
    ·rw [q]; exact hzl
    ·rw [q]; exact Heap.lt_size hTI
    ·rw [q]; exact Heap.lt_size hTO
    ·rw [q]; exact h1.lt
    ·rw [q]; exact h2.lt
   rw [ag (Nat.ne_of_lt hlt)]
   exact (hf c hcm).1
 done:=by
  intro X hP hw hK hc i pins s σ H E I hf st hg
  subst hP hw hK
  obtain ⟨hz,hTI,⟨x0,y0,hTO⟩,h1,h2⟩:=st
  obtain ⟨xs,ys,hqx,hqy,hend⟩:=hg
  obtain ⟨its,rv,p⟩:=cj.at I hqx
  obtain ⟨its2,rv2,p2⟩:=cj.at I hqy
  have l1:=rv.length
  have l2:=rv2.length
  have he : its.toArray[i]? = none ∨ its2.toArray[i]? = none:=by
   rcases hend with q | q
   ·exact .inl (by simp; omega)
   ·exact .inr (by simp; omega)
  exact ShV.ac9 (I.ok.hd hc) D hz hTI hTO h1 h2 p p2 he fun h' hk => ⟨rfl,I.S4 (t':=s.toks) (ch:=[z,TI,TO,i1,i2]) (fun c o hb q =>
   hk c o (fun q' => hb (by simp [q'])) (fun q' => hb (by simp [q'])) (fun q' => hb (by simp [q'])) (fun q' => hb (by simp [q'])) q) hf⟩
 self:=fun A i s Q E st h => wpAny_pyIter_zip st.1 h
def abD (k1 k2 : ShV.SK) (K : PySem.W.Frag) (ta : TA) : TI:=fun σ H R => ta σ H fun vs H1 => ∃ a b xs ys,vs = [.ref a,.ref b] ∧ cj k1 K H1 a xs ∧ cj k2 K H1 b ys ∧ R (oz k1 k2 K a b) H1
theorem uK {k1 k2 : ShV.SK} {X : Cx} {e e2 : Expr} {ta : TA} {p pos tpos : Pos} {elts : List Expr} {kk : Nat} (hg : Gl X "zip") (hm : X.mg "zip" = none) (ha : PA X [e,e2] ta)
 (hs : starEach [e,e2] X.env = (false,eval e X.env) :: starEach [e2] X.env:=by rfl) (hpl : (backTo pos (starEach [e2] X.env)).any (·.1) = false:=by rfl) :
 PI X (.Tuple elts kk tpos) (.Call (.Name "zip" p) [e,e2] [] pos) (abD k1 k2 X.K ta):=by
 intro pins s σ H R I h
 refine Call_ (nT I hg hm adQ (PyProof.Rows.callWith_type1 (aJ (ha pos pins s σ H _ I h) fun us s1 ⟨vs,H1,I1,r1,q1⟩ => ?_) hs hpl))
 obtain ⟨a,b,xs,ys,ex,hqx,hqy,q⟩:=q1
 subst ex
 cases r1 with
 | cons r rr =>
   cases rr with
   | cons r' rr =>
     cases rr
     cases r
     cases r'
     obtain ⟨its,rv,p1⟩:=cj.at I1 hqx
     obtain ⟨its2,rv2,p2⟩:=cj.at I1 hqy
     refine ShV.adE p1 p2 fun h' hz hTI hTO h1 h2 hsz hk => wpAny_pyIter_zip hz ?_
     have I2 : Inv X pins σ H1 { s1 with heap:=h' }:=I1.kept (t':=s1.toks) hk
     refine ⟨s1.heap.objs.size + 4,[s1.heap.objs.size + 4,s1.heap.objs.size + 2,s1.heap.objs.size + 3,s1.heap.objs.size,s1.heap.objs.size + 1],_,_,H1,rfl,I2,S5 (PySem.W.ktu_apart s1.heap.objs.size a b p1.lt p2.lt),⟨hz,hTI,⟨_,_,hTO⟩,h1,h2⟩,fun c hcm => ?_,q⟩
     have e' : c = s1.heap.objs.size + 4 ∨ c = s1.heap.objs.size + 2 ∨ c = s1.heap.objs.size + 3 ∨ c = s1.heap.objs.size ∨ c = s1.heap.objs.size + 1:=by simpa using hcm
     have hle : s1.heap.objs.size ≤ c:=by
      rcases e' with z | z | z | z | z <;> rw [z] <;> first | exact Nat.le_add_right _ _ | exact Nat.le_refl _
     exact I1.nW hle (I1.ax.fresh hle)
def oE (K : PySem.W.Frag) (a : Addr) : It :=
 ⟨fun i H => ∃ (xs : List V) (x : V),a4 K H a xs ∧ xs[i]? = some x,fun i H v H' => ∃ T x,v = .ref T ∧ H T = none ∧ H' = upd H T (.tup [.int (i : Nat),x]) ∧ ∀ xs,a4 K H a xs → xs[i]? = some x,fun i H => ∃ xs : List V,a4 K H a xs ∧ xs.length = i⟩
theorem Td {P : Program} {w : World} {K : PySem.W.Frag} {elts : List Expr} {kk : Nat} {tpos : Pos} {a e it : Addr} (hea : e ≠ a) (hia : a ≠ it) :
 Turn P w K (.Tuple elts kk tpos) (oE K a) [e,it] e (fun i h => (∃ old,IsEnum h e it ((i : Nat) : Int) old) ∧ ShV.cH .t h it a i ∧ e ≠ it) where
 mem:=by simp
 obj:=fun i h st b hb => by
  obtain ⟨⟨old,he⟩,⟨o,ho,hc,hd⟩,_⟩:=st
  have e' : b = e ∨ b = it:=by simpa using hb
  rcases e' with z | z
  ·rw [z]; exact ⟨_,he,fun v q => nomatch q⟩
  ·rw [z]; exact ⟨o,ho,fun v q => by rw [hd] at q; cases q⟩
 keep:=fun i h h' st k => let ⟨⟨old,he⟩,hi,hne⟩:=st; ⟨⟨old,k e (by simp) _ he⟩,hi.up fun o q => k it (by simp) o q,hne⟩
 item:=by
  intro X hP hw hK hc i pins s σ H E I hf st hg
  subst hP hw hK
  obtain ⟨⟨old,he⟩,hit,hne⟩:=st
  obtain ⟨xs,x,hq,hx⟩:=hg
  obtain ⟨its,rv,p⟩:=cj.at (k:=.t) I hq
  obtain ⟨u,hu,ru⟩:=rv.get hx
  have hel : e < s.heap.objs.size:=Heap.lt_size he
  have hlt : i < its.toArray.size:=by
   obtain ⟨z,_⟩:=List.getElem?_eq_some_iff.mp hu
   simpa using z
  refine wpAny_pyNext_enum_itemD (ShV.NF (k:=.t) (A:=X.A.in1) (I.ok.hd hc) it a hia its.toArray) he ⟨hit,p⟩ hlt hne (by simp [hne,hea]) fun v h' tk hv ho hst hT hsz hk => ?_
  obtain rfl : u = v:=by
   have : its.toArray[i]? = some u:=by simpa using hu
   rw [this] at hv
   exact Option.some.inj hv
  refine ⟨_,rfl,wpAny_letOwnedTupleGo_enum (s:={ s with heap:=h',toks:=tk + 1 }) ho fun h'' he' sb => ?_⟩
  have hT2 : h''.get? s.heap.objs.size = some { cls:=.type "tuple",data:=.seq #[.int i tk,u] }:=(sb.2 _ (Nat.ne_of_gt hel)).trans hT
  have new : bZ X.prog X.w (upd H s.heap.objs.size (.tup [.int (i : Nat),x])) h'' s.heap.objs.size (.tup [.int (i : Nat),x]) :=
   ⟨by show 2 ≤ sizeLine; decide,[.int i tk,u],.cons ⟨_,rfl⟩ (.cons ru .nil),⟨_,hT2,rfl,_,rfl⟩⟩
  have I1 : Inv X pins σ (upd H s.heap.objs.size (.tup [.int (i : Nat),x])) { s with heap:=h'',toks:=tk + 1 } :=
   I.t6 (ch:=[e,it]) (fun b ob hb q => (sb.2 b (fun z => hb (by simp [z]))).trans (hk b ob (fun z => hb (by simp [z])) (fun z => hb (by simp [z])) q)) hf (Nat.le_refl _) new
  refine ⟨.ref s.heap.objs.size,_,I1,rfl,⟨_,x,rfl,I.ax.fresh (Nat.le_refl _),rfl,fun ys hy => by rw [cj.inj (k:=.t) I hy hq]; exact hx⟩,⟨⟨u,?_⟩,hst.1.up fun o q => (sb.2 it (Ne.symm hne)).trans q,hne⟩,fun b hb => ?_⟩
  ·have e1 : ((i + 1 : Nat) : Int) = (i : Int) + 1:=by omega
   rw [e1]; exact he'
  ·have hb' : b < s.heap.objs.size:=by
    have e' : b = e ∨ b = it:=by simpa using hb
    rcases e' with z | z
    ·rw [z]; exact hel
    ·rw [z]; exact hit.lt
   rw [ag (Nat.ne_of_lt hb')]
   exact (hf b hb).1
 done:=by
  intro X hP hw hK hc i pins s σ H E I hf st hg
  subst hP hw hK
  obtain ⟨⟨old,he⟩,hit,hne⟩:=st
  obtain ⟨xs,hq,hx⟩:=hg
  obtain ⟨its,rv,p⟩:=cj.at (k:=.t) I hq
  obtain ⟨f0,f1,f2,f3,f4,f5⟩:=hf it (by simp)
  have hl:=rv.length
  have ei : i = its.toArray.size:=by simp; omega
  subst ei
  exact wpAny_pyNext_enum_endD (ShV.NF (k:=.t) (A:=X.A.in1) (I.ok.hd hc) it a hia its.toArray) he ⟨hit,p⟩ fun h' eb => ⟨rfl,I.turned (t':=s.toks) (fun b o hb q => eb b o hb q) f0 f1 f3 f4 f5⟩
 self:=fun A i s Q E st h => let ⟨⟨_,he⟩,_⟩:=st; wpAny_pyIter_enum he h
def abJ (K : PySem.W.Frag) (ta : TA) : TI:=fun σ H R => ta σ H fun vs H1 => ∃ a xs,vs = [.ref a] ∧ a4 K H1 a xs ∧ R (oE K a) H1
theorem Ke {X : Cx} {e : Expr} {ta : TA} {p pos tpos : Pos} {elts : List Expr} {kk : Nat} (hg : Gl X "enumerate") (hm : X.mg "enumerate" = none) (ha : PA X [e] ta) (hs : starEach [e] X.env = [(false,eval e X.env)]:=by rfl) :
 PI X (.Tuple elts kk tpos) (.Call (.Name "enumerate" p) [e] [] pos) (abJ X.K ta):=by
 intro pins s σ H R I h
 refine Call_ (nT I hg hm boot_enumerate (PyProof.Rows.callWith_type1 (aJ (ha pos pins s σ H _ I h) fun us s1 ⟨vs,H1,I1,r1,q1⟩ => ?_) hs rfl))
 obtain ⟨a,xs,ex,hq,q⟩:=q1
 subst ex
 cases r1 with
 | cons r rr =>
   cases rr
   cases r
   obtain ⟨its,rv,p'⟩:=cj.at (k:=.t) I1 hq
   refine ShV.adI p' fun h' he hit hsz hk => wpAny_pyIter_enum he ?_
   have I2 : Inv X pins σ H1 { s1 with heap:=h' }:=I1.kept (t':=s1.toks) hk
   refine ⟨s1.heap.objs.size + 1,[s1.heap.objs.size + 1,s1.heap.objs.size],_,_,H1,rfl,I2,Td (a:=a) (e:=s1.heap.objs.size + 1) (it:=s1.heap.objs.size) (Nat.ne_of_gt (Nat.lt_succ_of_lt p'.lt)) (Nat.ne_of_lt p'.lt),⟨⟨.none,he⟩,hit,Nat.succ_ne_self _⟩,fun b hb => ?_,q⟩
   have e' : b = s1.heap.objs.size + 1 ∨ b = s1.heap.objs.size:=by simpa using hb
   have hle : s1.heap.objs.size ≤ b:=by
    rcases e' with z | z
    ·rw [z]; exact Nat.le_add_right _ _
    ·rw [z]; exact Nat.le_refl _
   exact I1.nW hle (I1.ax.fresh hle)
theorem Be {k1 k2 : ShV.SK} {K : PySem.W.Frag} {a b : Addr} {xs ys : List V} {g : TG} {tb : TS} {D : Ends} {σ : St} {H : Hp} (Pv : Nat → St → Hp → Prop) (h0 : Pv 0 σ H) (hl : ∀ i σ H,Pv i σ H → cj k1 K H a xs ∧ cj k2 K H b ys)
 (hs : ∀ i x y T σ H,xs[i]? = some x → ys[i]? = some y → H T = none → Pv i σ H → g (.ref T) σ (upd H T (.tup [x,y])) fun σ2 H2 => tb { D with nx:=Pv (i + 1),ct:=Pv (i + 1),bk:=D.nx } σ2 H2) (hd : ∀ i σ H,(xs.length ≤ i ∨ ys.length ≤ i) → i ≤ xs.length → i ≤ ys.length → Pv i σ H → D.nx σ H) :
 ∃ W : Nat → Nat → St → Hp → Prop,(∃ m,W 0 m σ H) ∧ ∀ i m σ H,W i m σ H →
  ((oz k1 k2 K a b).stop i H ∧ D.nx σ H) ∨ ((oz k1 k2 K a b).go i H ∧ ∃ N : St → Hp → Prop,(∀ σ' H',N σ' H' → ∃ m',m' < m ∧ W (i + 1) m' σ' H') ∧ ∀ x H',(oz k1 k2 K a b).e9 i H x H' → g x σ H' fun σ2 H2 => tb { D with nx:=N,ct:=N,bk:=D.nx } σ2 H2):=by
 refine ⟨fun i m σ H => m = xs.length - i ∧ i ≤ xs.length ∧ i ≤ ys.length ∧ Pv i σ H,⟨xs.length,by simp,Nat.zero_le _,Nat.zero_le _,h0⟩,?_⟩
 rintro i m σ H ⟨rfl,hi,hj,p⟩
 obtain ⟨q1,q2⟩:=hl i σ H p
 by_cases hlt : i < xs.length ∧ i < ys.length
 ·refine .inr ⟨⟨xs,ys,xs[i],ys[i],q1,q2,List.getElem?_eq_getElem hlt.1,List.getElem?_eq_getElem hlt.2⟩,Pv (i + 1),fun σ' H' p' => ⟨xs.length - (i + 1),by omega,rfl,hlt.1,hlt.2,p'⟩,fun v H' y => ?_⟩
  obtain ⟨T,x,y,e1,e2,e3,e4,e5⟩:=y
  subst e1 e3
  exact hs i x y T σ H (e4 xs q1) (e5 ys q2) e2 p
 ·exact .inl ⟨⟨xs,ys,q1,q2,by omega⟩,hd i σ H (by omega) hi hj p⟩
theorem Nq {K : PySem.W.Frag} {a : Addr} {xs : List V} {g : TG} {tb : TS} {D : Ends} {σ : St} {H : Hp} (Pv : Nat → St → Hp → Prop) (h0 : Pv 0 σ H) (hl : ∀ i σ H,Pv i σ H → a4 K H a xs)
 (hs : ∀ i x T σ H,xs[i]? = some x → H T = none → Pv i σ H → g (.ref T) σ (upd H T (.tup [.int (i : Nat),x])) fun σ2 H2 => tb { D with nx:=Pv (i + 1),ct:=Pv (i + 1),bk:=D.nx } σ2 H2) (hd : ∀ σ H,Pv xs.length σ H → D.nx σ H) :
 ∃ W : Nat → Nat → St → Hp → Prop,(∃ m,W 0 m σ H) ∧ ∀ i m σ H,W i m σ H →
  ((oE K a).stop i H ∧ D.nx σ H) ∨ ((oE K a).go i H ∧ ∃ N : St → Hp → Prop,(∀ σ' H',N σ' H' → ∃ m',m' < m ∧ W (i + 1) m' σ' H') ∧ ∀ x H',(oE K a).e9 i H x H' → g x σ H' fun σ2 H2 => tb { D with nx:=N,ct:=N,bk:=D.nx } σ2 H2):=by
 refine ⟨fun i m σ H => m = xs.length - i ∧ i ≤ xs.length ∧ Pv i σ H,⟨xs.length,by simp,Nat.zero_le _,h0⟩,?_⟩
 rintro i m σ H ⟨rfl,hi,p⟩
 have q:=hl i σ H p
 by_cases hlt : i < xs.length
 ·refine .inr ⟨⟨xs,xs[i],q,List.getElem?_eq_getElem hlt⟩,Pv (i + 1),fun σ' H' p' => ⟨xs.length - (i + 1),by omega,rfl,hlt,p'⟩,fun v H' y => ?_⟩
  obtain ⟨T,x,e1,e2,e3,e4⟩:=y
  subst e1 e3
  exact hs i x T σ H (e4 xs q) e2 p
 ·have e : i = xs.length:=by omega
  subst e
  exact .inl ⟨⟨xs,q,rfl⟩,hd σ H p⟩
end L2
end
section
namespace Sh
open PySem PySem.Spec PyProof.Rows L2
open Vbahap (State Truth View Flight Msg)
theorem bN {f : Str} {v : V} {l : List (Str × V)} : List.lookup f ((f,v) :: l) = some v:=by
 show (match f == f with | true => some v | false => List.lookup f l) = some v
 rw [beq_self_eq_true]
theorem aY {f g : Str} {v w : V} {l : List (Str × V)} (h : (f == g) = false) (e : List.lookup f l = some w) : List.lookup f ((g,v) :: l) = some w:=by
 show (match f == g with | true => some v | false => List.lookup f l) = some w
 rw [h]
 exact e
theorem mx : ∀ {l : List (Str × V)} {m : Str},m ∉ l.map (·.1) → l.lookup m = none
 | [],_,_ => rfl
 | (g,v) :: l,m,h => by
   rw [List.map_cons,List.mem_cons,not_or] at h
   show (match m == g with | true => some v | false => List.lookup m l) = none
   rw [beq_eq_false_iff_ne.mpr h.1]
   exact mx h.2
theorem cn {f : Str} {v : V} : b8 f v [] = [(f,v)]:=rfl
theorem gq {f : Str} {v x : V} {l : List (Str × V)} : b8 f v ((f,x) :: l) = (f,v) :: l:=by
 show (if f = f then _ else _) = _
 rw [if_pos rfl]
theorem aL {f g : Str} {v x : V} {l r : List (Str × V)} (h : g ≠ f) (e : b8 f v l = r) : b8 f v ((g,x) :: l) = (g,x) :: r:=by
 show (if g = f then _ else _) = _
 rw [if_neg h,e]
def cN (l : Addr) (n : Int) : List (Str × V):=[("messages",.ref l),("sent",.int n)]
theorem kG (l : Addr) (n : Int) : (cN l n).lookup ("messages" : Str) = some (.ref l):=bN
theorem jE (l : Addr) (n : Int) : (cN l n).lookup ("sent" : Str) = some (.int n):=(aY (by decide +kernel) bN)
theorem dY (l : Addr) (n : Int) {m : Str} (h : m ∉ (["messages","sent"] : List Str)) : (cN l n).lookup m = none:=mx h
def gB (a b c : Addr) : List (Str × V):=[("net",.ref a),("flights",.ref b),("kept",.ref c)]
theorem abd (a b c : Addr) : (gB a b c).lookup ("net" : Str) = some (.ref a):=bN
theorem fB (a b c : Addr) : (gB a b c).lookup ("flights" : Str) = some (.ref b):=(aY (by decide +kernel) bN)
theorem jF (a b c : Addr) : (gB a b c).lookup ("kept" : Str) = some (.ref c):=(aY (by decide +kernel) (aY (by decide +kernel) bN))
theorem bR (a b c : Addr) {m : Str} (h : m ∉ (["net","flights","kept"] : List Str)) : (gB a b c).lookup m = none:=mx h
def ky (a b : Addr) : List (Str × V):=[("net",.ref a),("sales",.ref b)]
theorem qi (a b : Addr) : (ky a b).lookup ("net" : Str) = some (.ref a):=bN
theorem kF (a b : Addr) : (ky a b).lookup ("sales" : Str) = some (.ref b):=(aY (by decide +kernel) bN)
theorem jG (a b : Addr) {m : Str} (h : m ∉ (["net","sales"] : List Str)) : (ky a b).lookup m = none:=mx h
def jJ (a b c : Addr) : List (Str × V):=[("net",.ref a),("inventory",.ref b),("resellers",.ref c)]
theorem cO (a b c : Addr) : (jJ a b c).lookup ("net" : Str) = some (.ref a):=bN
theorem dO (a b c : Addr) : (jJ a b c).lookup ("inventory" : Str) = some (.ref b):=(aY (by decide +kernel) bN)
theorem kH (a b c : Addr) : (jJ a b c).lookup ("resellers" : Str) = some (.ref c):=(aY (by decide +kernel) (aY (by decide +kernel) bN))
def d9 (x : Flight) : List (Str × V):=[("cap",.int x.cap),("shut",.bl x.shut)]
theorem xm (x : Flight) : (d9 x).lookup ("cap" : Str) = some (.int x.cap):=bN
theorem xl (x : Flight) : (d9 x).lookup ("shut" : Str) = some (.bl x.shut):=(aY (by decide +kernel) bN)
def cx (t : Truth) : List (Str × V):=[("r",.int t.r),("no",.int t.no),("f",.int t.f),("seats",.int t.n),("stands",.int t.status),("version",.int t.version),("known",.int t.acked)]
theorem Lr (t : Truth) : (cx t).lookup ("r" : Str) = some (.int t.r):=bN
theorem Ls (t : Truth) : (cx t).lookup ("no" : Str) = some (.int t.no):=(aY (by decide +kernel) bN)
theorem xk (t : Truth) : (cx t).lookup ("f" : Str) = some (.int t.f):=(aY (by decide +kernel) (aY (by decide +kernel) bN))
theorem xj (t : Truth) : (cx t).lookup ("seats" : Str) = some (.int t.n):=(aY (by decide +kernel) (aY (by decide +kernel) (aY (by decide +kernel) bN)))
theorem lz (t : Truth) : (cx t).lookup ("stands" : Str) = some (.int t.status):=(aY (by decide +kernel) (aY (by decide +kernel) (aY (by decide +kernel) (aY (by decide +kernel) bN))))
theorem ly (t : Truth) : (cx t).lookup ("version" : Str) = some (.int t.version):=(aY (by decide +kernel) (aY (by decide +kernel) (aY (by decide +kernel) (aY (by decide +kernel) (aY (by decide +kernel) bN)))))
theorem qm (t : Truth) : (cx t).lookup ("known" : Str) = some (.int t.acked):=(aY (by decide +kernel) (aY (by decide +kernel) (aY (by decide +kernel) (aY (by decide +kernel) (aY (by decide +kernel) (aY (by decide +kernel) bN))))))
def cD (v : View) : List (Str × V):=[("r",.int v.r),("no",.int v.no),("f",.int v.f),("seats",.int v.n),("unwanted",.bl v.cancel),("seen",.int v.seen),("stood",.int v.status)]
theorem xh (v : View) : (cD v).lookup ("r" : Str) = some (.int v.r):=bN
theorem Lq (v : View) : (cD v).lookup ("no" : Str) = some (.int v.no):=(aY (by decide +kernel) bN)
theorem xi (v : View) : (cD v).lookup ("f" : Str) = some (.int v.f):=(aY (by decide +kernel) (aY (by decide +kernel) bN))
theorem xg (v : View) : (cD v).lookup ("seats" : Str) = some (.int v.n):=(aY (by decide +kernel) (aY (by decide +kernel) (aY (by decide +kernel) bN)))
theorem qj (v : View) : (cD v).lookup ("unwanted" : Str) = some (.bl v.cancel):=(aY (by decide +kernel) (aY (by decide +kernel) (aY (by decide +kernel) (aY (by decide +kernel) bN))))
theorem lx (v : View) : (cD v).lookup ("seen" : Str) = some (.int v.seen):=(aY (by decide +kernel) (aY (by decide +kernel) (aY (by decide +kernel) (aY (by decide +kernel) (aY (by decide +kernel) bN)))))
theorem qk (v : View) : (cD v).lookup ("stood" : Str) = some (.int v.status):=(aY (by decide +kernel) (aY (by decide +kernel) (aY (by decide +kernel) (aY (by decide +kernel) (aY (by decide +kernel) (aY (by decide +kernel) bN))))))
theorem Xp (l : Addr) (n : Int) (m : Int) : b8 "sent" (.int m) (cN l n) = cN l m:=(aL (by decide +kernel) gq)
theorem Xq (l : Addr) (n : Int) (m : Addr) : b8 "messages" (.ref m) (cN l n) = cN m n:=gq
theorem Xv (x : Flight) (c : Nat) : b8 "cap" (.int c) (d9 x) = d9 { x with cap:=c }:=gq
theorem Xu (x : Flight) (c : Bool) : b8 "shut" (.bl c) (d9 x) = d9 { x with shut:=c }:=(aL (by decide +kernel) gq)
theorem Xs (t : Truth) (s : Nat) : b8 "stands" (.int s) (cx t) = cx { t with status:=s }:=(aL (by decide +kernel) (aL (by decide +kernel) (aL (by decide +kernel) (aL (by decide +kernel) gq))))
theorem Xr (t : Truth) (s : Nat) : b8 "version" (.int s) (cx t) = cx { t with version:=s }:=(aL (by decide +kernel) (aL (by decide +kernel) (aL (by decide +kernel) (aL (by decide +kernel) (aL (by decide +kernel) gq)))))
theorem Xt (t : Truth) (s : Nat) : b8 "known" (.int s) (cx t) = cx { t with acked:=s }:=(aL (by decide +kernel) (aL (by decide +kernel) (aL (by decide +kernel) (aL (by decide +kernel) (aL (by decide +kernel) (aL (by decide +kernel) gq))))))
theorem Xm (v : View) (c : Bool) : b8 "unwanted" (.bl c) (cD v) = cD { v with cancel:=c }:=(aL (by decide +kernel) (aL (by decide +kernel) (aL (by decide +kernel) (aL (by decide +kernel) gq))))
theorem Xo (v : View) (s : Nat) : b8 "seen" (.int s) (cD v) = cD { v with seen:=s }:=(aL (by decide +kernel) (aL (by decide +kernel) (aL (by decide +kernel) (aL (by decide +kernel) (aL (by decide +kernel) gq)))))
theorem Xn (v : View) (s : Nat) : b8 "stood" (.int s) (cD v) = cD { v with status:=s }:=(aL (by decide +kernel) (aL (by decide +kernel) (aL (by decide +kernel) (aL (by decide +kernel) (aL (by decide +kernel) (aL (by decide +kernel) gq))))))
def kd : HO → List Str
 | .lst _ => ["l"]
 | .tup _ => ["t"]
 | .dK _ => ["k"]
 | .dT _ => ["d"]
 | .ins _ _ fs => fs.map (·.1)
 | _ => ["?"]
theorem cz {H : Hp} {a b : Addr} {o u : HO} (h : H a = some o) (h' : H b = some u) (d : kd o ≠ kd u) : a ≠ b:=K1 h h' fun e => d (by rw [e])
theorem bq {H : Hp} {a b : Addr} {o u x : HO} (h : H a = some o) (h' : H b = some u) (d : kd o ≠ kd u) : upd H b x a = some o:=by
 rw [ag (cz h h' d)]
 exact h
theorem aU {H : Hp} {a : Addr} {o : HO} (h : H a = none) : ao H (upd H a o):=fun b u e => by
 rw [ag (bj e h)]
 exact e
def cq (H : Hp) (a C : Addr) (fs : List (Str × V)) : Prop:=∃ dx,H a = some (.ins C dx fs)
theorem cq.same {H H' : Hp} {a C : Addr} {fs : List (Str × V)} (h : cq H a C fs) (s : ao H H') : cq H' a C fs:=let ⟨d,e⟩:=h; ⟨d,s _ _ e⟩
theorem cq.keep {H : Hp} {a b C : Addr} {fs : List (Str × V)} {u x : HO} (h : cq H a C fs) (h' : H b = some u) (d : fs.map (·.1) ≠ kd u) : cq (upd H b x) a C fs:=let ⟨dx,e⟩:=h; ⟨dx,bq e h' d⟩
structure Cs where
 a5 : Addr
 bS : Addr
 aP : Addr
 aG : Addr
 aV : Addr
 bw : Addr
 aD : Addr
structure Wd where
 aH : Addr
 aI : Addr
 aR : Addr
 aN : Addr
 aM : Addr
 aF : Addr
 aK : Addr
 aS : Addr
 bU : Int
 ms : List (Addr × Msg)
 fl : List (Addr × Flight)
 tr : List (Addr × Truth)
 vw : List (Addr × View)
 seq : Nat
def Wd.st (W : Wd) : State:={ flights:=W.fl.map (·.2),truths:=W.tr.map (·.2),views:=W.vw.map (·.2),net:=W.ms.map (·.2),seq:=W.seq }
def bE (r no : Nat) : List Key:=[Sum.inl (r : Int),Sum.inl (no : Int)]
theorem mD {r no r' no' : Nat} (h : bE r no = bE r' no') : r = r' ∧ no = no':=by
 unfold bE at h
 injection h with h1 h2
 injection h2 with h2 _
 have a:=Sum.inl.inj h1
 have b:=Sum.inl.inj h2
 omega
def d8 (l : List (Addr × Flight)) : List (Key × V):=l.map fun p => (Sum.inl (p.2.f : Int),V.ref p.1)
def bY (l : List (Addr × Truth)) : List (List Key × V):=l.map fun p => (bE p.2.r p.2.no,V.ref p.1)
def bK (l : List (Addr × View)) : List (List Key × V):=l.map fun p => (bE p.2.r p.2.no,V.ref p.1)
def bO (l : List (Addr × Msg)) : List V:=l.map fun p => V.ref p.1
def dM : Msg → List V
 | .ask r no f n => [.int 0,.int r,.int no,.int f,.int n]
 | .can r no => [.int 1,.int r,.int no]
 | .st r no v s => [.int 2,.int r,.int no,.int v,.int s]
 | .ack r no v => [.int 3,.int r,.int no,.int v]
structure Rep (A : Cs) (H : Hp) (W : Wd) : Prop where
 hs : cq H W.aH A.aD (jJ W.aN W.aI W.aR)
 inv : cq H W.aI A.aG (gB W.aN W.aF W.aK)
 res : cq H W.aR A.bw (ky W.aN W.aS)
 net : cq H W.aN A.a5 (cN W.aM W.bU)
 msg : H W.aM = some (.lst (bO W.ms))
 bF : H W.aF = some (.dK (d8 W.fl))
 bJ : H W.aK = some (.dT (bY W.tr))
 bD : H W.aS = some (.dT (bK W.vw))
 dC : ∀ p ∈ W.ms,H p.1 = some (.tup (dM p.2))
 cE : ∀ p ∈ W.fl,cq H p.1 A.bS (d9 p.2)
 b9 : ∀ p ∈ W.tr,cq H p.1 A.aP (cx p.2)
 cv : ∀ p ∈ W.vw,cq H p.1 A.aV (cD p.2)
 d7 : (W.fl.map (·.1)).Nodup
 cT : (W.tr.map (·.1)).Nodup
 dQ : (W.vw.map (·.1)).Nodup
 dZ : W.aK ≠ W.aS
theorem Rep.same {A : Cs} {H H' : Hp} {W : Wd} (R : Rep A H W) (s : ao H H') : Rep A H' W :=
 ⟨R.hs.same s,R.inv.same s,R.res.same s,R.net.same s,s _ _ R.msg,s _ _ R.bF,s _ _ R.bJ,s _ _ R.bD,fun p h => s _ _ (R.dC p h),fun p h => (R.cE p h).same s,fun p h => (R.b9 p h).same s,fun p h => (R.cv p h).same s,R.d7,R.cT,R.dQ,R.dZ⟩
def Wd.foot (W : Wd) (b : Addr) : Prop:=b = W.aN ∨ b = W.aM ∨ b = W.aF ∨ b = W.aK ∨ b = W.aS ∨ b ∈ W.fl.map (·.1) ∨ b ∈ W.tr.map (·.1) ∨ b ∈ W.vw.map (·.1)
structure e7 (W W' : Wd) : Prop where
 aH : W'.aH = W.aH
 aI : W'.aI = W.aI
 aR : W'.aR = W.aR
 aN : W'.aN = W.aN
 aF : W'.aF = W.aF
 aK : W'.aK = W.aK
 aS : W'.aS = W.aS
theorem e7.refl (W : Wd) : e7 W W:=⟨rfl,rfl,rfl,rfl,rfl,rfl,rfl⟩
theorem e7.trans {W W1 W2 : Wd} (a : e7 W W1) (b : e7 W1 W2) : e7 W W2:=⟨b.aH.trans a.aH,b.aI.trans a.aI,b.aR.trans a.aR,b.aN.trans a.aN,b.aF.trans a.aF,b.aK.trans a.aK,b.aS.trans a.aS⟩
structure aO (H : Hp) (W : Wd) (H' : Hp) (W' : Wd) : Prop where
 keep : ∀ b o,H b = some o → ¬ W.foot b → H' b = some o
 foot : ∀ b,W'.foot b → W.foot b ∨ H b = none
 adr : e7 W W'
theorem aO.refl (H : Hp) (W : Wd) : aO H W H W:=⟨fun _ _ e _ => e,fun _ f => .inl f,e7.refl W⟩
theorem aO.same {H H' : Hp} {W : Wd} (s : ao H H') : aO H W H' W:=⟨fun _ _ e _ => s _ _ e,fun _ f => .inl f,e7.refl W⟩
theorem aO.trans {H H1 H2 : Hp} {W W1 W2 : Wd} (a : aO H W H1 W1) (b : aO H1 W1 H2 W2) : aO H W H2 W2:=by
 refine ⟨fun c o e n => b.keep c o (a.keep c o e n) fun f => ?_,fun c f => ?_,a.adr.trans b.adr⟩
 ·rcases a.foot c f with z | z
  ·exact n z
  ·rw [e] at z; cases z
 ·rcases b.foot c f with z | z
  ·exact a.foot c z
  ·cases e : H c with
   | none => exact .inr rfl
   | some o =>
     by_cases n : W.foot c
     ·exact .inl n
     ·rw [a.keep c o e n] at z; cases z
theorem aO.upd {H : Hp} {W W' : Wd} {x : Addr} {o : HO} (hx : W.foot x) (hf : ∀ b,W'.foot b → W.foot b ∨ H b = none) (ha : e7 W W') : aO H W (L2.upd H x o) W' :=
 ⟨fun b u e n => by rw [ag (fun z => n (by rw [z]; exact hx))]; exact e,hf,ha⟩
def Wd.push (W : Wd) (p : Addr) (m : Msg) : Wd:={ W with ms:=W.ms ++ [(p,m)],bU:=W.bU + 1 }
theorem Wd.fq (W : Wd) (p : Addr) (m : Msg) : (W.push p m).st = Vbahap.send W.st [m]:=by
 show ({ flights:=_,truths:=_,views:=_,net:=(W.ms ++ [(p,m)]).map (·.2),seq:=_ } : State) = { flights:=_,truths:=_,views:=_,net:=W.ms.map (·.2) ++ [m],seq:=_ }
 rw [List.map_append]
 rfl
theorem Rep.aaW {A : Cs} {H : Hp} {W : Wd} {dx : Addr} {n : Int} (R : Rep A H W) (hN : H W.aN = some (.ins A.a5 dx (cN W.aM W.bU))) : Rep A (upd H W.aN (.ins A.a5 dx (cN W.aM n))) { W with bU:=n } :=
 ⟨R.hs.keep hN (by show (["net","inventory","resellers"] : List Str) ≠ (["messages","sent"] : List Str); decide +kernel),R.inv.keep hN (by show (["net","flights","kept"] : List Str) ≠ (["messages","sent"] : List Str); decide +kernel),
  R.res.keep hN (by show (["net","sales"] : List Str) ≠ (["messages","sent"] : List Str); decide +kernel),⟨dx,af⟩,bq R.msg hN (by show (["l"] : List Str) ≠ (["messages","sent"] : List Str); decide +kernel),
  bq R.bF hN (by show (["k"] : List Str) ≠ (["messages","sent"] : List Str); decide +kernel),bq R.bJ hN (by show (["d"] : List Str) ≠ (["messages","sent"] : List Str); decide +kernel),bq R.bD hN (by show (["d"] : List Str) ≠ (["messages","sent"] : List Str); decide +kernel),
  fun p h => bq (R.dC p h) hN (by show (["t"] : List Str) ≠ (["messages","sent"] : List Str); decide +kernel),fun p h => (R.cE p h).keep hN (by show (["cap","shut"] : List Str) ≠ (["messages","sent"] : List Str); decide +kernel),
  fun p h => (R.b9 p h).keep hN (by show (["r","no","f","seats","stands","version","known"] : List Str) ≠ (["messages","sent"] : List Str); decide +kernel),fun p h => (R.cv p h).keep hN (by show (["r","no","f","seats","unwanted","seen","stood"] : List Str) ≠ (["messages","sent"] : List Str); decide +kernel),
  R.d7,R.cT,R.dQ,R.dZ⟩
theorem Rep.K7 {A : Cs} {H : Hp} {W : Wd} {ms : List (Addr × Msg)} (R : Rep A H W) (hm : ∀ p ∈ ms,H p.1 = some (.tup (dM p.2))) : Rep A (upd H W.aM (.lst (bO ms))) { W with ms:=ms } :=
 ⟨R.hs.keep R.msg (by show (["net","inventory","resellers"] : List Str) ≠ (["l"] : List Str); decide +kernel),R.inv.keep R.msg (by show (["net","flights","kept"] : List Str) ≠ (["l"] : List Str); decide +kernel),
  R.res.keep R.msg (by show (["net","sales"] : List Str) ≠ (["l"] : List Str); decide +kernel),R.net.keep R.msg (by show (["messages","sent"] : List Str) ≠ (["l"] : List Str); decide +kernel),af,
  bq R.bF R.msg (by show (["k"] : List Str) ≠ (["l"] : List Str); decide +kernel),bq R.bJ R.msg (by show (["d"] : List Str) ≠ (["l"] : List Str); decide +kernel),bq R.bD R.msg (by show (["d"] : List Str) ≠ (["l"] : List Str); decide +kernel),
  fun p h => bq (hm p h) R.msg (by show (["t"] : List Str) ≠ (["l"] : List Str); decide +kernel),fun p h => (R.cE p h).keep R.msg (by show (["cap","shut"] : List Str) ≠ (["l"] : List Str); decide +kernel),
  fun p h => (R.b9 p h).keep R.msg (by show (["r","no","f","seats","stands","version","known"] : List Str) ≠ (["l"] : List Str); decide +kernel),fun p h => (R.cv p h).keep R.msg (by show (["r","no","f","seats","unwanted","seen","stood"] : List Str) ≠ (["l"] : List Str); decide +kernel),
  R.d7,R.cT,R.dQ,R.dZ⟩
theorem Rep.push {A : Cs} {H : Hp} {W : Wd} {p dx : Addr} {m : Msg} (R : Rep A H W) (hp : H p = some (.tup (dM m))) (hN : H W.aN = some (.ins A.a5 dx (cN W.aM W.bU))) :
 Rep A (upd (upd H W.aM (.lst (bO W.ms ++ [V.ref p]))) W.aN (.ins A.a5 dx (cN W.aM (W.bU + 1)))) (W.push p m) ∧ aO H W (upd (upd H W.aM (.lst (bO W.ms ++ [V.ref p]))) W.aN (.ins A.a5 dx (cN W.aM (W.bU + 1)))) (W.push p m):=by
 have e : bO W.ms ++ [V.ref p] = bO (W.ms ++ [(p,m)]):=by unfold bO; rw [List.map_append]; rfl
 rw [e]
 have R1:=R.K7 (ms:=W.ms ++ [(p,m)]) fun q hq => by
  rcases List.mem_append.mp hq with z | z
  ·exact R.dC q z
  ·rw [List.mem_singleton.mp z]; exact hp
 have hN1 : upd H W.aM (.lst (bO (W.ms ++ [(p,m)]))) W.aN = some (.ins A.a5 dx (cN W.aM W.bU)):=bq hN R.msg (by show (["messages","sent"] : List Str) ≠ (["l"] : List Str); decide +kernel)
 refine ⟨R1.aaW (n:=W.bU + 1) hN1,?_⟩
 have F1 : aO H W (upd H W.aM (.lst (bO (W.ms ++ [(p,m)])))) W:=aO.upd (.inr (.inl rfl)) (fun b f => .inl f) (e7.refl W)
 exact F1.trans (aO.upd (.inl rfl) (fun b f => .inl f) ⟨rfl,rfl,rfl,rfl,rfl,rfl,rfl⟩)
def Wd.drop (W : Wd) (k : Nat) : Wd:={ W with ms:=W.ms.eraseIdx k }
theorem Bh {α β : Type} (g : α → β) : ∀ (l : List α) (k : Nat),(l.eraseIdx k).map g = (l.map g).eraseIdx k
 | [],_ => rfl
 | _ :: _,0 => rfl
 | a :: l,k + 1 => by
   show g a :: (l.eraseIdx k).map g = g a :: (l.map g).eraseIdx k
   rw [Bh g l k]
theorem Wd.Bl (W : Wd) (k : Nat) : (W.drop k).st = { W.st with net:=W.st.net.eraseIdx k }:=by
 show ({ flights:=_,truths:=_,views:=_,net:=(W.ms.eraseIdx k).map (·.2),seq:=_ } : State) = _
 rw [Bh]
 rfl
theorem Rep.drop {A : Cs} {H : Hp} {W : Wd} (R : Rep A H W) (k : Nat) : Rep A (upd H W.aM (.lst ((bO W.ms).eraseIdx k))) (W.drop k) ∧ aO H W (upd H W.aM (.lst ((bO W.ms).eraseIdx k))) (W.drop k):=by
 have e : (bO W.ms).eraseIdx k = bO (W.ms.eraseIdx k):=(Bh _ _ _).symm
 rw [e]
 exact ⟨R.K7 fun p hp => R.dC p (List.mem_of_mem_eraseIdx hp),aO.upd (.inr (.inl rfl)) (fun b f => .inl f) ⟨rfl,rfl,rfl,rfl,rfl,rfl,rfl⟩⟩
def Wd.fresh (W : Wd) (l : Addr) : Wd:={ W with aM:=l,ms:=[] }
theorem Rep.fresh {A : Cs} {H : Hp} {W : Wd} {l dx : Addr} (R : Rep A H W) (hl : H l = none) (hN : H W.aN = some (.ins A.a5 dx (cN W.aM W.bU))) :
 Rep A (upd (upd H l (.lst [])) W.aN (.ins A.a5 dx (cN l W.bU))) (W.fresh l) ∧ aO H W (upd (upd H l (.lst [])) W.aN (.ins A.a5 dx (cN l W.bU))) (W.fresh l) ∧ upd (upd H l (.lst [])) W.aN (.ins A.a5 dx (cN l W.bU)) W.aM = some (.lst (bO W.ms)):=by
 have s : ao H (upd H l (.lst [])):=aU hl
 have R0:=R.same s
 have nl : W.aN ≠ l:=bj hN hl
 have R1 : Rep A (upd H l (.lst [])) { W with aM:=W.aM }:=R0
 have hN0:=s _ _ hN
 refine ⟨⟨R0.hs.keep hN0 (by show (["net","inventory","resellers"] : List Str) ≠ (["messages","sent"] : List Str); decide +kernel),R0.inv.keep hN0 (by show (["net","flights","kept"] : List Str) ≠ (["messages","sent"] : List Str); decide +kernel),
  R0.res.keep hN0 (by show (["net","sales"] : List Str) ≠ (["messages","sent"] : List Str); decide +kernel),⟨dx,af⟩,?_,
  bq R0.bF hN0 (by show (["k"] : List Str) ≠ (["messages","sent"] : List Str); decide +kernel),bq R0.bJ hN0 (by show (["d"] : List Str) ≠ (["messages","sent"] : List Str); decide +kernel),bq R0.bD hN0 (by show (["d"] : List Str) ≠ (["messages","sent"] : List Str); decide +kernel),
  (fun p h => absurd h List.not_mem_nil),fun p h => (R0.cE p h).keep hN0 (by show (["cap","shut"] : List Str) ≠ (["messages","sent"] : List Str); decide +kernel),
  fun p h => (R0.b9 p h).keep hN0 (by show (["r","no","f","seats","stands","version","known"] : List Str) ≠ (["messages","sent"] : List Str); decide +kernel),fun p h => (R0.cv p h).keep hN0 (by show (["r","no","f","seats","unwanted","seen","stood"] : List Str) ≠ (["messages","sent"] : List Str); decide +kernel),
  R.d7,R.cT,R.dQ,R.dZ⟩,?_,bq R0.msg hN0 (by show (["l"] : List Str) ≠ (["messages","sent"] : List Str); decide +kernel)⟩
 ·show upd (upd H l (.lst [])) W.aN _ l = some (.lst [])
  rw [ag nl.symm]
  exact af
 ·refine ⟨fun b o e n => ?_,fun b f => ?_,⟨rfl,rfl,rfl,rfl,rfl,rfl,rfl⟩⟩
  ·rw [ag (fun z => n (by rw [z]; exact .inl rfl)),ag (bj e hl)]
   exact e
  ·rcases f with z | z | z | z | z | z | z | z
   ·exact .inl (.inl z)
   ·exact .inr (by rw [show b = l from z]; exact hl)
   ·exact .inl (.inr (.inr (.inl z)))
   ·exact .inl (.inr (.inr (.inr (.inl z))))
   ·exact .inl (.inr (.inr (.inr (.inr (.inl z)))))
   ·exact .inl (.inr (.inr (.inr (.inr (.inr (.inl z))))))
   ·exact .inl (.inr (.inr (.inr (.inr (.inr (.inr (.inl z)))))))
   ·exact .inl (.inr (.inr (.inr (.inr (.inr (.inr (.inr z)))))))
section
variable {α : Type}
def cJ (l : List (Addr × α)) (a : Addr) (u : α) : List (Addr × α):=l.map fun p => if p.1 = a then (a,u) else p
theorem lU (l : List (Addr × α)) (a : Addr) (u : α) : (cJ l a u).map (·.1) = l.map (·.1):=by
 unfold cJ
 rw [List.map_map]
 refine List.map_congr_left fun p _ => ?_
 show (if p.1 = a then (a,u) else p).1 = p.1
 split
 ·rename_i h; exact h.symm
 ·rfl
theorem uf {l : List (Addr × α)} {a : Addr} {u : α} {p : Addr × α} (h : p ∈ cJ l a u) : p = (a,u) ∨ (p ∈ l ∧ p.1 ≠ a):=by
 obtain ⟨q,hq,e⟩:=List.mem_map.mp h
 by_cases c : q.1 = a
 ·rw [if_pos c] at e; exact .inl e.symm
 ·rw [if_neg c] at e; subst e; exact .inr ⟨hq,c⟩
theorem ug {β : Type} {l : List (Addr × α)} {a : Addr} {t u : α} {g : Addr × α → β} (nd : (l.map (·.1)).Nodup) (hm : (a,t) ∈ l) (hg : g (a,u) = g (a,t)) : (cJ l a u).map g = l.map g:=by
 unfold cJ
 rw [List.map_map]
 refine List.map_congr_left fun p hp => ?_
 show g (if p.1 = a then (a,u) else p) = g p
 split
 ·rename_i h
  have e : p = (a,t):=fw nd hp hm h
  rw [e,hg]
 ·rfl
theorem uh {κ : Type} [DecidableEq κ] {l : List (Addr × α)} {a : Addr} {t u : α} {key : α → κ} (nd : (l.map (·.1)).Nodup) (kn : ((l.map (·.2)).map key).Nodup) (hm : (a,t) ∈ l) (hk : key u = key t) :
 (cJ l a u).map (·.2) = (l.map (·.2)).map fun x => if key x = key u then u else x:=by
 unfold cJ
 rw [List.map_map,List.map_map]
 refine List.map_congr_left fun p hp => ?_
 show (if p.1 = a then (a,u) else p).2 = if key p.2 = key u then u else p.2
 rw [List.map_map] at kn
 by_cases c : p.1 = a
 ·have e : p = (a,t):=fw nd hp hm c
  rw [if_pos c,if_pos (by rw [e,hk])]
 ·rw [if_neg c,if_neg (fun z => c (by
   have e : p = (a,t):=fw (g:=key ∘ (·.2)) kn hp hm (by show key p.2 = key t; rw [z,hk])
   rw [e]))]
end
def Wd.dc (W : Wd) (a : Addr) (u : Truth) : Wd:={ W with tr:=cJ W.tr a u }
theorem Rep.dc {A : Cs} {H : Hp} {W : Wd} {a da : Addr} {t u : Truth} (R : Rep A H W) (hm : (a,t) ∈ W.tr) (hk : bC u = bC t) (ha : H a = some (.ins A.aP da (cx t))) :
 Rep A (upd H a (.ins A.aP da (cx u))) (W.dc a u) ∧ aO H W (upd H a (.ins A.aP da (cx u))) (W.dc a u):=by
 have ek : bY (cJ W.tr a u) = bY W.tr:=ug R.cT hm (by
  show (bE u.r u.no,V.ref a) = (bE t.r t.no,V.ref a)
  rw [(Prod.mk.inj hk).1,(Prod.mk.inj hk).2])
 have am : a ∈ W.tr.map (·.1):=List.mem_map.mpr ⟨_,hm,rfl⟩
 refine ⟨⟨R.hs.keep ha (by show (["net","inventory","resellers"] : List Str) ≠ (["r","no","f","seats","stands","version","known"] : List Str); decide +kernel),R.inv.keep ha (by show (["net","flights","kept"] : List Str) ≠ (["r","no","f","seats","stands","version","known"] : List Str); decide +kernel),R.res.keep ha (by show (["net","sales"] : List Str) ≠ (["r","no","f","seats","stands","version","known"] : List Str); decide +kernel),R.net.keep ha (by show (["messages","sent"] : List Str) ≠ (["r","no","f","seats","stands","version","known"] : List Str); decide +kernel),bq R.msg ha (by show (["l"] : List Str) ≠ (["r","no","f","seats","stands","version","known"] : List Str); decide +kernel),bq R.bF ha (by show (["k"] : List Str) ≠ (["r","no","f","seats","stands","version","known"] : List Str); decide +kernel),?_,bq R.bD ha (by show (["d"] : List Str) ≠ (["r","no","f","seats","stands","version","known"] : List Str); decide +kernel),fun p hp => bq (R.dC p hp) ha (by show (["t"] : List Str) ≠ (["r","no","f","seats","stands","version","known"] : List Str); decide +kernel),fun p hp => (R.cE p hp).keep ha (by show (["cap","shut"] : List Str) ≠ (["r","no","f","seats","stands","version","known"] : List Str); decide +kernel),?_,fun p hp => (R.cv p hp).keep ha (by show (["r","no","f","seats","unwanted","seen","stood"] : List Str) ≠ (["r","no","f","seats","stands","version","known"] : List Str); decide +kernel),R.d7,?_,R.dQ,R.dZ⟩,aO.upd (.inr (.inr (.inr (.inr (.inr (.inr (.inl am))))))) (fun b f => .inl ?_) ⟨rfl,rfl,rfl,rfl,rfl,rfl,rfl⟩⟩
 ·show upd H a _ W.aK = some (.dT (bY (cJ W.tr a u)))
  rw [ek]
  exact bq R.bJ ha (by show (["d"] : List Str) ≠ (["r","no","f","seats","stands","version","known"] : List Str); decide +kernel)
 ·intro p hp
  rcases uf hp with z | ⟨z,n⟩
  ·rw [z]; exact ⟨da,af⟩
  ·obtain ⟨d,e⟩:=R.b9 p z
   exact ⟨d,by rw [ag n]; exact e⟩
 ·show ((cJ W.tr a u).map (·.1)).Nodup
  rw [lU]
  exact R.cT
 ·unfold Wd.foot at f ⊢
  rw [show (W.dc a u).tr.map (·.1) = W.tr.map (·.1) from lU _ _ _] at f
  exact f
theorem G6 {W : Wd} {a : Addr} {t u : Truth} (tn : (W.tr.map (·.1)).Nodup) (g : (W.st.truths.map bC).Nodup) (hm : (a,t) ∈ W.tr) (hk : bC u = bC t) : (W.dc a u).st = Vbahap.setTruth W.st u:=by
 show ({ flights:=_,truths:=(cJ W.tr a u).map (·.2),views:=_,net:=_,seq:=_ } : State) = { flights:=_,truths:=W.st.truths.map fun x => if x.r = u.r ∧ x.no = u.no then u else x,views:=_,net:=_,seq:=_ }
 rw [uh (key:=bC) tn g hm hk]
 congr 1
 refine List.map_congr_left fun x _ => ?_
 have e : (bC x = bC u) ↔ (x.r = u.r ∧ x.no = u.no):=Prod.mk.injEq .. ▸ Iff.rfl
 by_cases c : x.r = u.r ∧ x.no = u.no
 ·rw [if_pos c,if_pos (e.mpr c)]
 ·rw [if_neg c,if_neg (fun z => c (e.mp z))]
def Wd.ke (W : Wd) (x : Addr) (u : Truth) : Wd:={ W with tr:=W.tr ++ [(x,u)],seq:=W.seq + 1 }
theorem Wd.aeU (W : Wd) (x : Addr) (u : Truth) : (W.ke x u).st = { W.st with truths:=W.st.truths ++ [u],seq:=W.st.seq + 1 }:=by
 show ({ flights:=_,truths:=(W.tr ++ [(x,u)]).map (·.2),views:=_,net:=_,seq:=_ } : State) = _
 rw [List.map_append]
 rfl
theorem Rep.ke {A : Cs} {H : Hp} {W : Wd} {x : Addr} {u : Truth} (R : Rep A H W) (fr : ∀ p ∈ W.tr,p.1 ≠ x) (hx : cq H x A.aP (cx u)) :
 Rep A (upd H W.aK (.dT (bY W.tr ++ [(bE u.r u.no,V.ref x)]))) (W.ke x u):=by
 refine ⟨R.hs.keep R.bJ (by show (["net","inventory","resellers"] : List Str) ≠ (["d"] : List Str); decide +kernel),R.inv.keep R.bJ (by show (["net","flights","kept"] : List Str) ≠ (["d"] : List Str); decide +kernel),R.res.keep R.bJ (by show (["net","sales"] : List Str) ≠ (["d"] : List Str); decide +kernel),R.net.keep R.bJ (by show (["messages","sent"] : List Str) ≠ (["d"] : List Str); decide +kernel),bq R.msg R.bJ (by show (["l"] : List Str) ≠ (["d"] : List Str); decide +kernel),bq R.bF R.bJ (by show (["k"] : List Str) ≠ (["d"] : List Str); decide +kernel),?_,?_,fun p hp => bq (R.dC p hp) R.bJ (by show (["t"] : List Str) ≠ (["d"] : List Str); decide +kernel),fun p hp => (R.cE p hp).keep R.bJ (by show (["cap","shut"] : List Str) ≠ (["d"] : List Str); decide +kernel),?_,fun p hp => (R.cv p hp).keep R.bJ (by show (["r","no","f","seats","unwanted","seen","stood"] : List Str) ≠ (["d"] : List Str); decide +kernel),R.d7,?_,R.dQ,R.dZ⟩
 ·show upd H W.aK _ W.aK = some (.dT (bY (W.tr ++ [(x,u)])))
  unfold bY
  rw [List.map_append]
  exact af
 ·show upd H W.aK _ W.aS = _
  rw [ag R.dZ.symm]
  exact R.bD
 ·intro p hp
  rcases List.mem_append.mp hp with z | z
  ·exact (R.b9 p z).keep R.bJ (by show (["r","no","f","seats","stands","version","known"] : List Str) ≠ (["d"] : List Str); decide +kernel)
  ·rw [List.mem_singleton.mp z]
   exact hx.keep R.bJ (by show (["r","no","f","seats","stands","version","known"] : List Str) ≠ (["d"] : List Str); decide +kernel)
 ·show ((W.tr ++ [(x,u)]).map (·.1)).Nodup
  rw [List.map_append]
  exact kE R.cT fun h => by
   obtain ⟨p,hp,e⟩:=List.mem_map.mp h
   exact fr p hp e
theorem aO.ke {H H1 : Hp} {W : Wd} {x : Addr} {u : Truth} {o : HO} (F : aO H W H1 W) (nx : H x = none) : aO H W (L2.upd H1 W.aK o) (W.ke x u):=by
 refine ⟨fun b q e n => ?_,fun b f => ?_,⟨rfl,rfl,rfl,rfl,rfl,rfl,rfl⟩⟩
 ·rw [ag (fun z => n (by rw [z]; exact .inr (.inr (.inr (.inl rfl)))))]
  exact F.keep b q e n
 ·rcases f with z | z | z | z | z | z | z | z
  ·exact .inl (.inl z)
  ·exact .inl (.inr (.inl z))
  ·exact .inl (.inr (.inr (.inl z)))
  ·exact .inl (.inr (.inr (.inr (.inl z))))
  ·exact .inl (.inr (.inr (.inr (.inr (.inl z)))))
  ·exact .inl (.inr (.inr (.inr (.inr (.inr (.inl z))))))
  ·have z' : b ∈ (W.tr ++ [(x,u)]).map (·.1):=z
   rw [List.map_append] at z'
   rcases List.mem_append.mp z' with z | z
   ·exact .inl (.inr (.inr (.inr (.inr (.inr (.inr (.inl z)))))))
   ·exact .inr (by rw [List.mem_singleton.mp z]; exact nx)
  ·exact .inl (.inr (.inr (.inr (.inr (.inr (.inr (.inr z)))))))
def Wd.fh (W : Wd) (a : Addr) (u : View) : Wd:={ W with vw:=cJ W.vw a u }
theorem Rep.fh {A : Cs} {H : Hp} {W : Wd} {a da : Addr} {t u : View} (R : Rep A H W) (hm : (a,t) ∈ W.vw) (hk : cI u = cI t) (ha : H a = some (.ins A.aV da (cD t))) :
 Rep A (upd H a (.ins A.aV da (cD u))) (W.fh a u) ∧ aO H W (upd H a (.ins A.aV da (cD u))) (W.fh a u):=by
 have ek : bK (cJ W.vw a u) = bK W.vw:=ug R.dQ hm (by
  show (bE u.r u.no,V.ref a) = (bE t.r t.no,V.ref a)
  rw [(Prod.mk.inj hk).1,(Prod.mk.inj hk).2])
 have am : a ∈ W.vw.map (·.1):=List.mem_map.mpr ⟨_,hm,rfl⟩
 refine ⟨⟨R.hs.keep ha (by show (["net","inventory","resellers"] : List Str) ≠ (["r","no","f","seats","unwanted","seen","stood"] : List Str); decide +kernel),R.inv.keep ha (by show (["net","flights","kept"] : List Str) ≠ (["r","no","f","seats","unwanted","seen","stood"] : List Str); decide +kernel),R.res.keep ha (by show (["net","sales"] : List Str) ≠ (["r","no","f","seats","unwanted","seen","stood"] : List Str); decide +kernel),R.net.keep ha (by show (["messages","sent"] : List Str) ≠ (["r","no","f","seats","unwanted","seen","stood"] : List Str); decide +kernel),bq R.msg ha (by show (["l"] : List Str) ≠ (["r","no","f","seats","unwanted","seen","stood"] : List Str); decide +kernel),bq R.bF ha (by show (["k"] : List Str) ≠ (["r","no","f","seats","unwanted","seen","stood"] : List Str); decide +kernel),bq R.bJ ha (by show (["d"] : List Str) ≠ (["r","no","f","seats","unwanted","seen","stood"] : List Str); decide +kernel),?_,fun p hp => bq (R.dC p hp) ha (by show (["t"] : List Str) ≠ (["r","no","f","seats","unwanted","seen","stood"] : List Str); decide +kernel),fun p hp => (R.cE p hp).keep ha (by show (["cap","shut"] : List Str) ≠ (["r","no","f","seats","unwanted","seen","stood"] : List Str); decide +kernel),fun p hp => (R.b9 p hp).keep ha (by show (["r","no","f","seats","stands","version","known"] : List Str) ≠ (["r","no","f","seats","unwanted","seen","stood"] : List Str); decide +kernel),?_,R.d7,R.cT,?_,R.dZ⟩,aO.upd (.inr (.inr (.inr (.inr (.inr (.inr (.inr am))))))) (fun b f => .inl ?_) ⟨rfl,rfl,rfl,rfl,rfl,rfl,rfl⟩⟩
 ·show upd H a _ W.aS = some (.dT (bK (cJ W.vw a u)))
  rw [ek]
  exact bq R.bD ha (by show (["d"] : List Str) ≠ (["r","no","f","seats","unwanted","seen","stood"] : List Str); decide +kernel)
 ·intro p hp
  rcases uf hp with z | ⟨z,n⟩
  ·rw [z]; exact ⟨da,af⟩
  ·obtain ⟨d,e⟩:=R.cv p z
   exact ⟨d,by rw [ag n]; exact e⟩
 ·show ((cJ W.vw a u).map (·.1)).Nodup
  rw [lU]
  exact R.dQ
 ·unfold Wd.foot at f ⊢
  rw [show (W.fh a u).vw.map (·.1) = W.vw.map (·.1) from lU _ _ _] at f
  exact f
theorem G5 {W : Wd} {a : Addr} {t u : View} (tn : (W.vw.map (·.1)).Nodup) (g : (W.st.views.map cI).Nodup) (hm : (a,t) ∈ W.vw) (hk : cI u = cI t) : (W.fh a u).st = { W.st with views:=W.st.views.map fun x => if x.r = u.r ∧ x.no = u.no then u else x }:=by
 show ({ flights:=_,truths:=_,views:=(cJ W.vw a u).map (·.2),net:=_,seq:=_ } : State) = _
 rw [uh (key:=cI) tn g hm hk]
 unfold Wd.st
 congr 1
 refine List.map_congr_left fun x _ => ?_
 have e : (cI x = cI u) ↔ (x.r = u.r ∧ x.no = u.no):=Prod.mk.injEq .. ▸ Iff.rfl
 by_cases c : x.r = u.r ∧ x.no = u.no
 ·rw [if_pos c,if_pos (e.mpr c)]
 ·rw [if_neg c,if_neg (fun z => c (e.mp z))]
def Wd.kc (W : Wd) (x : Addr) (u : View) : Wd:={ W with vw:=W.vw ++ [(x,u)] }
theorem Wd.aeT (W : Wd) (x : Addr) (u : View) : (W.kc x u).st = { W.st with views:=W.st.views ++ [u] }:=by
 show ({ flights:=_,truths:=_,views:=(W.vw ++ [(x,u)]).map (·.2),net:=_,seq:=_ } : State) = _
 rw [List.map_append]
 rfl
theorem Rep.kc {A : Cs} {H : Hp} {W : Wd} {x : Addr} {u : View} (R : Rep A H W) (fr : ∀ p ∈ W.vw,p.1 ≠ x) (hx : cq H x A.aV (cD u)) :
 Rep A (upd H W.aS (.dT (bK W.vw ++ [(bE u.r u.no,V.ref x)]))) (W.kc x u):=by
 refine ⟨R.hs.keep R.bD (by show (["net","inventory","resellers"] : List Str) ≠ (["d"] : List Str); decide +kernel),R.inv.keep R.bD (by show (["net","flights","kept"] : List Str) ≠ (["d"] : List Str); decide +kernel),R.res.keep R.bD (by show (["net","sales"] : List Str) ≠ (["d"] : List Str); decide +kernel),R.net.keep R.bD (by show (["messages","sent"] : List Str) ≠ (["d"] : List Str); decide +kernel),bq R.msg R.bD (by show (["l"] : List Str) ≠ (["d"] : List Str); decide +kernel),bq R.bF R.bD (by show (["k"] : List Str) ≠ (["d"] : List Str); decide +kernel),?_,?_,fun p hp => bq (R.dC p hp) R.bD (by show (["t"] : List Str) ≠ (["d"] : List Str); decide +kernel),fun p hp => (R.cE p hp).keep R.bD (by show (["cap","shut"] : List Str) ≠ (["d"] : List Str); decide +kernel),fun p hp => (R.b9 p hp).keep R.bD (by show (["r","no","f","seats","stands","version","known"] : List Str) ≠ (["d"] : List Str); decide +kernel),?_,R.d7,R.cT,?_,R.dZ⟩
 ·show upd H W.aS _ W.aK = _
  rw [ag R.dZ]
  exact R.bJ
 ·show upd H W.aS _ W.aS = some (.dT (bK (W.vw ++ [(x,u)])))
  unfold bK
  rw [List.map_append]
  exact af
 ·intro p hp
  rcases List.mem_append.mp hp with z | z
  ·exact (R.cv p z).keep R.bD (by show (["r","no","f","seats","unwanted","seen","stood"] : List Str) ≠ (["d"] : List Str); decide +kernel)
  ·rw [List.mem_singleton.mp z]
   exact hx.keep R.bD (by show (["r","no","f","seats","unwanted","seen","stood"] : List Str) ≠ (["d"] : List Str); decide +kernel)
 ·show ((W.vw ++ [(x,u)]).map (·.1)).Nodup
  rw [List.map_append]
  exact kE R.dQ fun h => by
   obtain ⟨p,hp,e⟩:=List.mem_map.mp h
   exact fr p hp e
theorem aO.kc {H H1 : Hp} {W : Wd} {x : Addr} {u : View} {o : HO} (F : aO H W H1 W) (nx : H x = none) : aO H W (L2.upd H1 W.aS o) (W.kc x u):=by
 refine ⟨fun b q e n => ?_,fun b f => ?_,⟨rfl,rfl,rfl,rfl,rfl,rfl,rfl⟩⟩
 ·rw [ag (fun z => n (by rw [z]; exact .inr (.inr (.inr (.inr (.inl rfl))))))]
  exact F.keep b q e n
 ·rcases f with z | z | z | z | z | z | z | z
  ·exact .inl (.inl z)
  ·exact .inl (.inr (.inl z))
  ·exact .inl (.inr (.inr (.inl z)))
  ·exact .inl (.inr (.inr (.inr (.inl z))))
  ·exact .inl (.inr (.inr (.inr (.inr (.inl z)))))
  ·exact .inl (.inr (.inr (.inr (.inr (.inr (.inl z))))))
  ·exact .inl (.inr (.inr (.inr (.inr (.inr (.inr (.inl z)))))))
  ·have z' : b ∈ (W.vw ++ [(x,u)]).map (·.1):=z
   rw [List.map_append] at z'
   rcases List.mem_append.mp z' with z | z
   ·exact .inl (.inr (.inr (.inr (.inr (.inr (.inr (.inr z)))))))
   ·exact .inr (by rw [List.mem_singleton.mp z]; exact nx)
def Wd.dm (W : Wd) (a : Addr) (u : Flight) : Wd:={ W with fl:=cJ W.fl a u }
theorem Rep.dm {A : Cs} {H : Hp} {W : Wd} {a da : Addr} {t u : Flight} (R : Rep A H W) (hm : (a,t) ∈ W.fl) (hk : u.f = t.f) (ha : H a = some (.ins A.bS da (d9 t))) :
 Rep A (upd H a (.ins A.bS da (d9 u))) (W.dm a u) ∧ aO H W (upd H a (.ins A.bS da (d9 u))) (W.dm a u):=by
 have ek : d8 (cJ W.fl a u) = d8 W.fl:=ug R.d7 hm (by
  show ((Sum.inl (u.f : Int) : Key),V.ref a) = (Sum.inl (t.f : Int),V.ref a)
  rw [hk])
 have am : a ∈ W.fl.map (·.1):=List.mem_map.mpr ⟨_,hm,rfl⟩
 refine ⟨⟨R.hs.keep ha (by show (["net","inventory","resellers"] : List Str) ≠ (["cap","shut"] : List Str); decide +kernel),R.inv.keep ha (by show (["net","flights","kept"] : List Str) ≠ (["cap","shut"] : List Str); decide +kernel),R.res.keep ha (by show (["net","sales"] : List Str) ≠ (["cap","shut"] : List Str); decide +kernel),R.net.keep ha (by show (["messages","sent"] : List Str) ≠ (["cap","shut"] : List Str); decide +kernel),bq R.msg ha (by show (["l"] : List Str) ≠ (["cap","shut"] : List Str); decide +kernel),?_,bq R.bJ ha (by show (["d"] : List Str) ≠ (["cap","shut"] : List Str); decide +kernel),bq R.bD ha (by show (["d"] : List Str) ≠ (["cap","shut"] : List Str); decide +kernel),fun p hp => bq (R.dC p hp) ha (by show (["t"] : List Str) ≠ (["cap","shut"] : List Str); decide +kernel),?_,fun p hp => (R.b9 p hp).keep ha (by show (["r","no","f","seats","stands","version","known"] : List Str) ≠ (["cap","shut"] : List Str); decide +kernel),fun p hp => (R.cv p hp).keep ha (by show (["r","no","f","seats","unwanted","seen","stood"] : List Str) ≠ (["cap","shut"] : List Str); decide +kernel),?_,R.cT,R.dQ,R.dZ⟩,aO.upd (.inr (.inr (.inr (.inr (.inr (.inl am)))))) (fun b f => .inl ?_) ⟨rfl,rfl,rfl,rfl,rfl,rfl,rfl⟩⟩
 ·show upd H a _ W.aF = some (.dK (d8 (cJ W.fl a u)))
  rw [ek]
  exact bq R.bF ha (by show (["k"] : List Str) ≠ (["cap","shut"] : List Str); decide +kernel)
 ·intro p hp
  rcases uf hp with z | ⟨z,n⟩
  ·rw [z]; exact ⟨da,af⟩
  ·obtain ⟨d,e⟩:=R.cE p z
   exact ⟨d,by rw [ag n]; exact e⟩
 ·show ((cJ W.fl a u).map (·.1)).Nodup
  rw [lU]
  exact R.d7
 ·unfold Wd.foot at f ⊢
  rw [show (W.dm a u).fl.map (·.1) = W.fl.map (·.1) from lU _ _ _] at f
  exact f
theorem G7 {W : Wd} {a : Addr} {t u : Flight} (tn : (W.fl.map (·.1)).Nodup) (g : (W.st.flights.map (·.f)).Nodup) (hm : (a,t) ∈ W.fl) (hk : u.f = t.f) : (W.dm a u).st = Vbahap.setFlight W.st u:=by
 show ({ flights:=(cJ W.fl a u).map (·.2),truths:=_,views:=_,net:=_,seq:=_ } : State) = _
 rw [uh (key:=Flight.f) tn g hm hk]
 rfl
def Wd.kg (W : Wd) (x : Addr) (u : Flight) : Wd:={ W with fl:=W.fl ++ [(x,u)] }
theorem Wd.aeV (W : Wd) (x : Addr) (u : Flight) : (W.kg x u).st = { W.st with flights:=W.st.flights ++ [u] }:=by
 show ({ flights:=(W.fl ++ [(x,u)]).map (·.2),truths:=_,views:=_,net:=_,seq:=_ } : State) = _
 rw [List.map_append]
 rfl
theorem Rep.kg {A : Cs} {H : Hp} {W : Wd} {x : Addr} {u : Flight} (R : Rep A H W) (fr : ∀ p ∈ W.fl,p.1 ≠ x) (hx : cq H x A.bS (d9 u)) :
 Rep A (upd H W.aF (.dK (d8 W.fl ++ [(Sum.inl (u.f : Int),V.ref x)]))) (W.kg x u):=by
 refine ⟨R.hs.keep R.bF (by show (["net","inventory","resellers"] : List Str) ≠ (["k"] : List Str); decide +kernel),R.inv.keep R.bF (by show (["net","flights","kept"] : List Str) ≠ (["k"] : List Str); decide +kernel),R.res.keep R.bF (by show (["net","sales"] : List Str) ≠ (["k"] : List Str); decide +kernel),R.net.keep R.bF (by show (["messages","sent"] : List Str) ≠ (["k"] : List Str); decide +kernel),bq R.msg R.bF (by show (["l"] : List Str) ≠ (["k"] : List Str); decide +kernel),?_,bq R.bJ R.bF (by show (["d"] : List Str) ≠ (["k"] : List Str); decide +kernel),bq R.bD R.bF (by show (["d"] : List Str) ≠ (["k"] : List Str); decide +kernel),fun p hp => bq (R.dC p hp) R.bF (by show (["t"] : List Str) ≠ (["k"] : List Str); decide +kernel),?_,fun p hp => (R.b9 p hp).keep R.bF (by show (["r","no","f","seats","stands","version","known"] : List Str) ≠ (["k"] : List Str); decide +kernel),fun p hp => (R.cv p hp).keep R.bF (by show (["r","no","f","seats","unwanted","seen","stood"] : List Str) ≠ (["k"] : List Str); decide +kernel),?_,R.cT,R.dQ,R.dZ⟩
 ·show upd H W.aF _ W.aF = some (.dK (d8 (W.fl ++ [(x,u)])))
  unfold d8
  rw [List.map_append]
  exact af
 ·intro p hp
  rcases List.mem_append.mp hp with z | z
  ·exact (R.cE p z).keep R.bF (by show (["cap","shut"] : List Str) ≠ (["k"] : List Str); decide +kernel)
  ·rw [List.mem_singleton.mp z]
   exact hx.keep R.bF (by show (["cap","shut"] : List Str) ≠ (["k"] : List Str); decide +kernel)
 ·show ((W.fl ++ [(x,u)]).map (·.1)).Nodup
  rw [List.map_append]
  exact kE R.d7 fun h => by
   obtain ⟨p,hp,e⟩:=List.mem_map.mp h
   exact fr p hp e
theorem aO.kg {H H1 : Hp} {W : Wd} {x : Addr} {u : Flight} {o : HO} (F : aO H W H1 W) (nx : H x = none) : aO H W (L2.upd H1 W.aF o) (W.kg x u):=by
 refine ⟨fun b q e n => ?_,fun b f => ?_,⟨rfl,rfl,rfl,rfl,rfl,rfl,rfl⟩⟩
 ·rw [ag (fun z => n (by rw [z]; exact .inr (.inr (.inl rfl))))]
  exact F.keep b q e n
 ·rcases f with z | z | z | z | z | z | z | z
  ·exact .inl (.inl z)
  ·exact .inl (.inr (.inl z))
  ·exact .inl (.inr (.inr (.inl z)))
  ·exact .inl (.inr (.inr (.inr (.inl z))))
  ·exact .inl (.inr (.inr (.inr (.inr (.inl z)))))
  ·have z' : b ∈ (W.fl ++ [(x,u)]).map (·.1):=z
   rw [List.map_append] at z'
   rcases List.mem_append.mp z' with z | z
   ·exact .inl (.inr (.inr (.inr (.inr (.inr (.inl z))))))
   ·exact .inr (by rw [List.mem_singleton.mp z]; exact nx)
  ·exact .inl (.inr (.inr (.inr (.inr (.inr (.inr (.inl z)))))))
  ·exact .inl (.inr (.inr (.inr (.inr (.inr (.inr (.inr z)))))))
theorem xf {α κ : Type} [DecidableEq κ] (l : List (Addr × α)) (key : α → κ) (p : α → Bool) (k : κ) (hp : ∀ x,p x = true ↔ key x = k) :
 (∃ q ∈ l,key q.2 = k ∧ bX (l.map fun q => (key q.2,V.ref q.1)) k = some (.ref q.1) ∧ (l.map (·.2)).find? p = some q.2) ∨ (bX (l.map fun q => (key q.2,V.ref q.1)) k = none ∧ (l.map (·.2)).find? p = none):=by
 induction l with
 | nil => exact .inr ⟨rfl,rfl⟩
 | cons a l ih =>
   by_cases c : key a.2 = k
   ·refine .inl ⟨a,List.mem_cons_self,c,oO c,?_⟩
    rw [List.map_cons,List.find?_cons_of_pos ((hp _).mpr c)]
   ·have n : ¬ (p a.2 = true):=fun z => c ((hp _).mp z)
    have e1 : bX ((a :: l).map fun q => (key q.2,V.ref q.1)) k = bX (l.map fun q => (key q.2,V.ref q.1)) k:=oP c
    have e2 : ((a :: l).map (·.2)).find? p = (l.map (·.2)).find? p:=by rw [List.map_cons,List.find?_cons_of_neg n]
    rw [e1,e2]
    rcases ih with ⟨q,h1,h2⟩ | h
    ·exact .inl ⟨q,List.mem_cons_of_mem _ h1,h2⟩
    ·exact .inr h
theorem lu (l : List (Addr × Flight)) (f : Nat) : (∃ p ∈ l,p.2.f = f ∧ bX (d8 l) (Sum.inl (f : Int)) = some (.ref p.1) ∧ (l.map (·.2)).find? (fun x => x.f == f) = some p.2) ∨
 (bX (d8 l) (Sum.inl (f : Int)) = none ∧ (l.map (·.2)).find? (fun x => x.f == f) = none):=by
 rcases xf l (fun x => (Sum.inl (x.f : Int) : Key)) (fun x => x.f == f) (Sum.inl (f : Int)) (fun x => ⟨fun h => by rw [eq_of_beq h],fun h => by have:=Sum.inl.inj h; exact beq_iff_eq.mpr (by omega)⟩) with ⟨q,h1,h2,h3⟩ | h
 ·exact .inl ⟨q,h1,by have:=Sum.inl.inj h2; omega,h3⟩
 ·exact .inr h
theorem mw (l : List (Addr × Truth)) (r no : Nat) : (∃ p ∈ l,p.2.r = r ∧ p.2.no = no ∧ bX (bY l) (bE r no) = some (.ref p.1) ∧ (l.map (·.2)).find? (fun t => t.r == r && t.no == no) = some p.2) ∨
 (bX (bY l) (bE r no) = none ∧ (l.map (·.2)).find? (fun t => t.r == r && t.no == no) = none):=by
 rcases xf l (fun x => bE x.r x.no) (fun t => t.r == r && t.no == no) (bE r no) (fun x => ⟨fun h => by simp at h; rw [h.1,h.2],fun h => by have:=mD h; simp [this.1,this.2]⟩) with ⟨q,h1,h2,h3⟩ | h
 ·exact .inl ⟨q,h1,(mD h2).1,(mD h2).2,h3⟩
 ·exact .inr h
theorem qh (l : List (Addr × View)) (r no : Nat) : (∃ p ∈ l,p.2.r = r ∧ p.2.no = no ∧ bX (bK l) (bE r no) = some (.ref p.1) ∧ (l.map (·.2)).find? (fun t => t.r == r && t.no == no) = some p.2) ∨
 (bX (bK l) (bE r no) = none ∧ (l.map (·.2)).find? (fun t => t.r == r && t.no == no) = none):=by
 rcases xf l (fun x => bE x.r x.no) (fun t => t.r == r && t.no == no) (bE r no) (fun x => ⟨fun h => by simp at h; rw [h.1,h.2],fun h => by have:=mD h; simp [this.1,this.2]⟩) with ⟨q,h1,h2,h3⟩ | h
 ·exact .inl ⟨q,h1,(mD h2).1,(mD h2).2,h3⟩
 ·exact .inr h
end Sh
end
section
namespace Sh
open PySem PySem.Spec PyProof.Rows L2
def top (i : Nat) : Stmt:=PySem.Challenge.pw_seathouses_s01_answers.main.body.getD i (.Pass ⟨0,0,0,0⟩)
abbrev jd : Stmt:=inClass (top 5) 0
abbrev jc : Stmt:=inClass (top 5) 1
abbrev je : Stmt:=inClass (top 5) 2
abbrev jb : Stmt:=inClass (top 5) 3
abbrev ja : Stmt:=inClass (top 5) 4
abbrev iD : Stmt:=top 13
abbrev jA : Stmt:=inClass (top 16) 0
abbrev jf : Stmt:=inClass (top 17) 0
abbrev jr : Stmt:=inClass (top 18) 0
abbrev gk : Stmt:=inClass (top 18) 1
abbrev gm : Stmt:=inClass (top 18) 2
abbrev jm : Stmt:=inClass (top 18) 3
abbrev jo : Stmt:=inClass (top 18) 4
abbrev jh : Stmt:=inClass (top 18) 5
abbrev jq : Stmt:=inClass (top 18) 6
abbrev jg : Stmt:=inClass (top 18) 7
abbrev jx : Stmt:=inClass (top 18) 8
abbrev ji : Stmt:=inClass (top 18) 9
abbrev jy : Stmt:=inClass (top 18) 10
abbrev jk : Stmt:=inClass (top 18) 11
abbrev jj : Stmt:=inClass (top 18) 12
abbrev ju : Stmt:=inClass (top 18) 13
abbrev jt : Stmt:=inClass (top 18) 14
abbrev jv : Stmt:=inClass (top 18) 15
abbrev jw : Stmt:=inClass (top 18) 16
abbrev jn : Stmt:=inClass (top 18) 17
abbrev i9 : Stmt:=inClass (top 20) 0
abbrev i4 : Stmt:=inClass (top 21) 0
abbrev i8 : Stmt:=inClass (top 21) 1
abbrev i7 : Stmt:=inClass (top 21) 2
abbrev gj : Stmt:=inClass (top 21) 3
abbrev i6 : Stmt:=inClass (top 21) 4
abbrev i5 : Stmt:=inClass (top 21) 5
abbrev i3 : Stmt:=inClass (top 21) 6
abbrev gi : Stmt:=top 28
abbrev ip : Stmt:=top 29
abbrev iB : Stmt:=top 30
abbrev iz : Stmt:=top 31
abbrev iA : Stmt:=top 32
abbrev iy : Stmt:=top 33
abbrev iw : Stmt:=top 34
abbrev jz : Stmt:=inClass (top 45) 0
abbrev iE : Stmt:=top 46
abbrev iR : Stmt:=top 47
abbrev iU : Stmt:=top 48
abbrev iI : Stmt:=top 49
abbrev iK : Stmt:=top 50
abbrev iQ : Stmt:=top 51
abbrev iX : Stmt:=top 52
abbrev iT : Stmt:=top 53
abbrev iO : Stmt:=top 54
abbrev iS : Stmt:=top 55
abbrev iu : Stmt:=top 56
abbrev iW : Stmt:=top 57
abbrev iV : Stmt:=top 58
abbrev iF : Stmt:=top 59
abbrev iG : Stmt:=top 60
abbrev iL : Stmt:=top 61
abbrev iP : Stmt:=top 62
abbrev iN : Stmt:=top 63
abbrev iH : Stmt:=top 64
abbrev iM : Stmt:=top 65
abbrev iC : Stmt:=top 66
abbrev iJ : Stmt:=top 67
abbrev ir : Stmt:=top 75
abbrev gh : Stmt:=top 76
abbrev iq : Stmt:=top 77
abbrev iZ : Stmt:=top 78
abbrev iY : Stmt:=top 79
set_option genInjectivity false in
set_option genSizeOfSpec false in
structure Ad extends Cs where
 gO : Addr
 rK : FuncData
 gN : Addr
 rJ : FuncData
 gP : Addr
 rL : FuncData
 gM : Addr
 rH : FuncData
 gL : Addr
 rG : FuncData
 j4 : Addr
 qQ : FuncData
 ib : Addr
 sh : FuncData
 gQ : Addr
 rM : FuncData
 g9 : Addr
 rY : FuncData
 gZ : Addr
 rV : FuncData
 hC : Addr
 rZ : FuncData
 gX : Addr
 rS : FuncData
 g0 : Addr
 rW : FuncData
 gS : Addr
 rO : FuncData
 g6 : Addr
 rX : FuncData
 gR : Addr
 rN : FuncData
 hX : Addr
 r9 : FuncData
 gT : Addr
 rP : FuncData
 hZ : Addr
 sf : FuncData
 gW : Addr
 rR : FuncData
 gU : Addr
 rQ : FuncData
 hJ : Addr
 r4 : FuncData
 hE : Addr
 r0 : FuncData
 hU : Addr
 r6 : FuncData
 hW : Addr
 r8 : FuncData
 gY : Addr
 rT : FuncData
 gK : Addr
 rF : FuncData
 gF : Addr
 rA : FuncData
 gJ : Addr
 rE : FuncData
 gI : Addr
 rD : FuncData
 gD : Addr
 rq : FuncData
 gH : Addr
 rC : FuncData
 gG : Addr
 rB : FuncData
 gE : Addr
 rz : FuncData
 j6 : Addr
 rn : FuncData
 jR : Addr
 qF : FuncData
 jZ : Addr
 qN : FuncData
 jX : Addr
 qL : FuncData
 jY : Addr
 qM : FuncData
 jW : Addr
 qK : FuncData
 jV : Addr
 qJ : FuncData
 ia : Addr
 sg : FuncData
 j5 : Addr
 qR : FuncData
 fR : Addr
 rf : FuncData
 fU : Addr
 rk : FuncData
 fI : Addr
 qV : FuncData
 fK : Addr
 qX : FuncData
 fQ : Addr
 rb : FuncData
 j7 : Addr
 ro : FuncData
 fT : Addr
 rj : FuncData
 fO : Addr
 q4 : FuncData
 fS : Addr
 rh : FuncData
 jU : Addr
 qI : FuncData
 fW : Addr
 rm : FuncData
 fV : Addr
 rl : FuncData
 fF : Addr
 qS : FuncData
 fG : Addr
 qT : FuncData
 fL : Addr
 qY : FuncData
 fP : Addr
 q5 : FuncData
 fN : Addr
 q0 : FuncData
 fH : Addr
 qU : FuncData
 fM : Addr
 qZ : FuncData
 j3 : Addr
 qP : FuncData
 fJ : Addr
 qW : FuncData
 jT : Addr
 qH : FuncData
 j0 : Addr
 qO : FuncData
 jS : Addr
 qG : FuncData
 j8 : Addr
 rp : FuncData
 fX : Addr
 n4 : FuncData
 dv : Addr
 du : Addr
 dD : Addr
 eS : Addr
 dE : Addr
 kU : Addr
 kW : Addr
 kX : Addr
 kT : Addr
 kS : Addr
def O6 : TD:=(.t [(.t [(.s "ASK"),(.s "r"),(.s "no"),(.s "flight"),(.s "seats")]),(.t [(.s "CAN"),(.s "r"),(.s "no")]),(.t [(.s "ST"),(.s "r"),(.s "no"),(.s "version"),(.s "letter")]),(.t [(.s "ACK"),(.s "r"),(.s "no"),(.s "version")])])
def O5 : TD:=(.t [(.s "H"),(.s "W"),(.s "R"),(.s "C"),(.s "X")])
def Bv : TD:=(.t [(.t [(.t [(.i 1),(.i 9999)]),(.t [(.i 0),(.i 999)])]),(.t [(.t [(.i 1),(.i 9999)]),(.t [(.i 0),(.i 999)])]),(.t [(.t [(.i 1),(.i 9999)])]),(.t [(.t [(.i 0),(.i 3)]),(.t [(.i 1),(.i 9999)]),(.t [(.i 1),(.i 9)])]),(.t [(.t [(.i 0),(.i 3)]),(.t [(.i 1),(.i 999)])]),(.t [(.t [(.i 0),(.i 999999)])]),(.t [(.t [(.i 0),(.i 999999)])]),(.t [(.t [(.i 0),(.i 999999)])]),(.t []),(.t []),(.t [(.t [(.i 0),(.i 3)]),(.t [(.i 1),(.i 999)])]),(.t [(.t [(.i 0),(.i 3)]),(.t [(.i 1),(.i 999)])]),(.t [(.t [(.i 1),(.i 9999)])]),(.t [(.t [(.i 1),(.i 9999)])]),(.t []),(.t [(.t [(.i 0),(.i 999999)])]),(.t []),(.t [])])
def Ad.calls (A : Ad) : List V:=[.ref A.fR,.ref A.fU,.ref A.fI,.ref A.fK,.ref A.fQ,.ref A.fT,.ref A.fO,.ref A.fS,.ref A.fW,.ref A.fV,.ref A.fF,.ref A.fG,.ref A.fL,.ref A.fP,.ref A.fN,.ref A.fH,.ref A.fM,.ref A.fJ]
def Ad.bounds (A : Ad) : List (Str × V):=[("r",.ref A.kU),("no",.ref A.kW),("flight",.ref A.kX),("seats",.ref A.kT),("version",.ref A.kS)]
structure Txt (Pa : Params) (K : PySem.W.Frag) (mg : Str → Option Value) (A : Ad) : Prop where
 dv : mg "FORMS" = some (.ref A.dv)
 mO : cB K 2 (.ref A.dv) O6
 du : mg "LETTERS" = some (.ref A.du)
 mN : cB K 1 (.ref A.du) O5
 dD : mg "RANGES" = some (.ref A.dD)
 mM : cB K 3 (.ref A.dD) Bv
 eS : mg "CALLS" = some (.ref A.eS)
 O4 : ∀ H,a4 K H A.eS A.calls
 dE : mg "BOUNDS" = some (.ref A.dE)
 oU : mQ Pa K A.dE A.bounds
 Q0 : ∀ H,a4 K H A.kU [.int 0,.int 3]
 Q1 : ∀ H,a4 K H A.kW [.int 1,.int 999]
 Q2 : ∀ H,a4 K H A.kX [.int 1,.int 9999]
 QY : ∀ H,a4 K H A.kT [.int 1,.int 9]
 QX : ∀ H,a4 K H A.kS [.int 1,.int 999999]
 bW : dH K A.a5
 fz : b0 K A.a5 "messages"
 eP : b0 K A.a5 "sent"
 mf : Mk K A.a5 A.gO
 Nj : mg "Net" = some (.ref A.a5)
 fY : dH K A.bS
 l8 : b0 K A.bS "cap"
 l7 : b0 K A.bS "shut"
 ml : Mk K A.bS A.ib
 Nn : mg "Flight" = some (.ref A.bS)
 bM : dH K A.aP
 p9 : b0 K A.aP "r"
 qb : b0 K A.aP "no"
 nQ : b0 K A.aP "f"
 nP : b0 K A.aP "seats"
 gy : b0 K A.aP "stands"
 gx : b0 K A.aP "version"
 lp : b0 K A.aP "known"
 mh : Mk K A.aP A.gQ
 Nk : mg "KeptSale" = some (.ref A.aP)
 bb : dH K A.aG
 wc : b0 K A.aG "net"
 eC : b0 K A.aG "flights"
 fA : b0 K A.aG "kept"
 mi : Mk K A.aG A.g9
 Nl : mg "Inventory" = some (.ref A.aG)
 bP : dH K A.aV
 nN : b0 K A.aV "r"
 p7 : b0 K A.aV "no"
 nO : b0 K A.aV "f"
 nM : b0 K A.aV "seats"
 lh : b0 K A.aV "unwanted"
 gw : b0 K A.aV "seen"
 lj : b0 K A.aV "stood"
 me : Mk K A.aV A.gK
 Ni : mg "OwnSale" = some (.ref A.aV)
 cF : dH K A.bw
 l6 : b0 K A.bw "net"
 gv : b0 K A.bw "sales"
 md : Mk K A.bw A.gF
 Nh : mg "Resellers" = some (.ref A.bw)
 br : dH K A.aD
 cA : b0 K A.aD "net"
 dq : b0 K A.aD "inventory"
 gz : b0 K A.aD "resellers"
 mj : Mk K A.aD A.ia
 Nm : mg "Houses" = some (.ref A.aD)
 Fp : aW K "__init__" "Net.__init__" jd A.gO A.rK
 Fo : aW K "send" "Net.send" jc A.gN A.rJ
 mm : Meth K A.a5 "send" A.gN
 Fq : aW K "has" "Net.has" je A.gP A.rL
 mn : Meth K A.a5 "has" A.gP
 Fn : aW K "take" "Net.take" jb A.gM A.rH
 w4 : Meth K A.a5 "take" A.gM
 Fm : aW K "take_all" "Net.take_all" ja A.gL A.rG
 Le : Meth K A.a5 "take_all" A.gL
 kZ : aW K "is_final" "is_final" iD A.j4 A.qQ
 mK : mg "is_final" = some (.ref A.j4)
 FO : aW K "__init__" "Flight.__init__" jA A.ib A.sh
 Fs : aW K "__init__" "KeptSale.__init__" jf A.gQ A.rM
 FE : aW K "__init__" "Inventory.__init__" jr A.g9 A.rY
 FA : aW K "sales_that" "Inventory.sales_that" gk A.gZ A.rV
 mr : Meth K A.aG "sales_that" A.gZ
 FF : aW K "held_on" "Inventory.held_on" gm A.hC A.rZ
 qg : Meth K A.aG "held_on" A.hC
 Fy : aW K "sells" "Inventory.sells" jm A.gX A.rS
 w6 : Meth K A.aG "sells" A.gX
 FC : aW K "room" "Inventory.room" jo A.g0 A.rW
 w8 : Meth K A.aG "room" A.g0
 Fu : aW K "tell" "Inventory.tell" jh A.gS A.rO
 mq : Meth K A.aG "tell" A.gS
 FD : aW K "keep" "Inventory.keep" jq A.g6 A.rX
 w9 : Meth K A.aG "keep" A.g6
 Ft : aW K "turn" "Inventory.turn" jg A.gR A.rN
 nR : Meth K A.aG "turn" A.gR
 FK : aW K "clear_flight" "Inventory.clear_flight" jx A.hX A.r9
 xa : Meth K A.aG "clear_flight" A.hX
 Fv : aW K "take_back" "Inventory.take_back" ji A.gT A.rP
 Lf : Meth K A.aG "take_back" A.gT
 FL : aW K "change_cap" "Inventory.change_cap" jy A.hZ A.sf
 Ln : Meth K A.aG "change_cap" A.hZ
 Fx : aW K "shut_flight" "Inventory.shut_flight" jk A.gW A.rR
 Lh : Meth K A.aG "shut_flight" A.gW
 Fw : aW K "standing_at_first" "Inventory.standing_at_first" jj A.gU A.rQ
 Lg : Meth K A.aG "standing_at_first" A.gU
 FH : aW K "hear_ask" "Inventory.hear_ask" ju A.hJ A.r4
 Lk : Meth K A.aG "hear_ask" A.hJ
 FG : aW K "hear_can" "Inventory.hear_can" jt A.hE A.r0
 Lj : Meth K A.aG "hear_can" A.hE
 FI : aW K "hear_ack" "Inventory.hear_ack" jv A.hU A.r6
 Ll : Meth K A.aG "hear_ack" A.hU
 FJ : aW K "hear" "Inventory.hear" jw A.hW A.r8
 Lm : Meth K A.aG "hear" A.hW
 Fz : aW K "say_again" "Inventory.say_again" jn A.gY A.rT
 Li : Meth K A.aG "say_again" A.gY
 Fl : aW K "__init__" "OwnSale.__init__" i9 A.gK A.rF
 Ff : aW K "__init__" "Resellers.__init__" i4 A.gF A.rA
 Fj : aW K "ask" "Resellers.ask" i8 A.gJ A.rE
 wZ : Meth K A.bw "ask" A.gJ
 Fi : aW K "cancel" "Resellers.cancel" i7 A.gI A.rD
 wY : Meth K A.bw "cancel" A.gI
 Fd : aW K "sell" "Resellers.sell" gj A.gD A.rq
 La : Meth K A.bw "sell" A.gD
 Fh : aW K "give_up" "Resellers.give_up" i6 A.gH A.rC
 Ld : Meth K A.bw "give_up" A.gH
 Fg : aW K "hear_st" "Resellers.hear_st" i5 A.gG A.rB
 Lc : Meth K A.bw "hear_st" A.gG
 Fe : aW K "say_again" "Resellers.say_again" i3 A.gE A.rz
 Lb : Meth K A.bw "say_again" A.gE
 lO : aW K "bytes_of" "bytes_of" gi A.j6 A.rn
 nV : mg "bytes_of" = some (.ref A.j6)
 sR : aW K "written" "written" ip A.jR A.qF
 M5 : mg "written" = some (.ref A.jR)
 sY : aW K "pieces_of" "pieces_of" iB A.jZ A.qN
 Nc : mg "pieces_of" = some (.ref A.jZ)
 sW : aW K "read_number" "read_number" iz A.jX A.qL
 Na : mg "read_number" = some (.ref A.jX)
 sX : aW K "read_letter" "read_letter" iA A.jY A.qM
 Nb : mg "read_letter" = some (.ref A.jY)
 sV : aW K "read_pieces" "read_pieces" iy A.jW A.qK
 M9 : mg "read_pieces" = some (.ref A.jW)
 sU : aW K "read_text" "read_text" iw A.jV A.qJ
 M8 : mg "read_text" = some (.ref A.jV)
 FN : aW K "__init__" "Houses.__init__" jz A.ia A.sg
 oI : aW K "change_refused" "change_refused" iE A.j5 A.qR
 Bc : mg "change_refused" = some (.ref A.j5)
 tK : aW K "call_flight" "call_flight" iR A.fR A.rf
 acM : mg "call_flight" = some (.ref A.fR)
 tN : aW K "call_cap" "call_cap" iU A.fU A.rk
 acP : mg "call_cap" = some (.ref A.fU)
 tu : aW K "call_shut" "call_shut" iI A.fI A.qV
 acD : mg "call_shut" = some (.ref A.fI)
 tD : aW K "call_sell" "call_sell" iK A.fK A.qX
 acF : mg "call_sell" = some (.ref A.fK)
 tJ : aW K "call_give_up" "call_give_up" iQ A.fQ A.rb
 acL : mg "call_give_up" = some (.ref A.fQ)
 oJ : aW K "bring" "bring" iX A.j7 A.ro
 Bd : mg "bring" = some (.ref A.j7)
 tM : aW K "call_deliver" "call_deliver" iT A.fT A.rj
 acO : mg "call_deliver" = some (.ref A.fT)
 tH : aW K "call_lose" "call_lose" iO A.fO A.q4
 acJ : mg "call_lose" = some (.ref A.fO)
 tL : aW K "call_double" "call_double" iS A.fS A.rh
 acN : mg "call_double" = some (.ref A.fS)
 oH : aW K "say_again" "say_again" iu A.jU A.qI
 Bb : mg "say_again" = some (.ref A.jU)
 tP : aW K "call_again" "call_again" iW A.fW A.rm
 acR : mg "call_again" = some (.ref A.fW)
 tO : aW K "call_calm" "call_calm" iV A.fV A.rl
 acQ : mg "call_calm" = some (.ref A.fV)
 tm : aW K "call_view" "call_view" iF A.fF A.qS
 acA : mg "call_view" = some (.ref A.fF)
 tp : aW K "call_truth" "call_truth" iG A.fG A.qT
 acB : mg "call_truth" = some (.ref A.fG)
 tE : aW K "call_seats" "call_seats" iL A.fL A.qY
 acG : mg "call_seats" = some (.ref A.fL)
 tI : aW K "call_line" "call_line" iP A.fP A.q5
 acK : mg "call_line" = some (.ref A.fP)
 tG : aW K "call_net" "call_net" iN A.fN A.q0
 acI : mg "call_net" = some (.ref A.fN)
 tq : aW K "call_text" "call_text" iH A.fH A.qU
 acC : mg "call_text" = some (.ref A.fH)
 tF : aW K "call_read" "call_read" iM A.fM A.qZ
 acH : mg "call_read" = some (.ref A.fM)
 tj : aW K "is_settled" "is_settled" iC A.j3 A.qP
 Nf : mg "is_settled" = some (.ref A.j3)
 tw : aW K "call_settled" "call_settled" iJ A.fJ A.qW
 acE : mg "call_settled" = some (.ref A.fJ)
 sT : aW K "taken_apart" "taken_apart" ir A.jT A.qH
 M7 : mg "taken_apart" = some (.ref A.jT)
 sZ : aW K "is_text" "is_text" gh A.j0 A.qO
 Nd : mg "is_text" = some (.ref A.j0)
 sS : aW K "within_ranges" "within_ranges" iq A.jS A.qG
 M6 : mg "within_ranges" = some (.ref A.jS)
 tQ : aW K "answer" "answer" iZ A.j8 A.rp
 Ng : mg "answer" = some (.ref A.j8)
 Fc : aW K "answers" "answers" iY A.fX A.n4
 acS : mg "answers" = some (.ref A.fX)
 Dn : ∃ t,mg "ASK" = some (.int 0 t)
 Dk : ∃ t,mg "CAN" = some (.int 1 t)
 CW : ∃ t,mg "ST" = some (.int 2 t)
 Dr : ∃ t,mg "ACK" = some (.int 3 t)
 QF : ∃ t,mg "UNSEEN" = some (.int 0 t)
 og : ∃ t,mg "HELD" = some (.int 1 t)
 oa : ∃ t,mg "WAITING" = some (.int 2 t)
 sv : ∃ t,mg "REFUSED" = some (.int 3 t)
 sy : ∃ t,mg "GIVEN_UP" = some (.int 4 t)
 su : ∃ t,mg "WITHDRAWN" = some (.int 5 t)
 QJ : ∃ t,mg "MOST_WAITING" = some (.int 6 t)
 QP : ∃ t,mg "BLANK" = some (.int 32 t)
 QE : ∃ t,mg "ZERO" = some (.int 48 t)
 sx : ∃ t,mg "NO_SUCH_FLIGHT" = some (.int (-3) t)
 kR : ∃ t,mg "NO_SUCH_SALE_OR_MESSAGE" = some (.int (-4) t)
 QG : ∃ t,mg "THERE_ALREADY" = some (.int (-5) t)
 sD : ∃ t,mg "FULL" = some (.int (-6) t)
 C7 : ∃ t,mg "NOT_AS_IT_MUST_BE" = some (.int (-7) t)
 QI : ∃ t,mg "NO_MESSAGES_TEXT" = some (.int (-8) t)
 QL : ∃ t,mg "MOST_FLIGHTS" = some (.int 12 t)
 QK : ∃ t,mg "MOST_SALES" = some (.int 40 t)
 QO : ∃ t,mg "FULL_NET" = some (.int 200 t)
 QH : ∃ t,mg "OUT_OF_RANGE" = some (.int (-2) t)
 C0 : ∃ t,mg "READ" = some (.int 16 t)
 QM : ∃ t,mg "LONGEST_TEXT" = some (.int 100 t)
 QN : ∃ t,mg "GREATEST_BYTE" = some (.int 255 t)
 K5 : mg "all" = none
 we : mg "enumerate" = none
 dX : mg "len" = none
 qe : mg "list" = none
 K4 : mg "ord" = none
 K3 : mg "reversed" = none
 wd : mg "str" = none
 K2 : mg "sum" = none
 qd : mg "zip" = none
section
variable {Pa : Params} {K : PySem.W.Frag} {mg : Str → Option Value} {A : Ad}
theorem Ib : aX ["self"] ["self"] (ab jd):=⟨rfl,rfl,rfl,by decide +kernel,rfl,by decide +kernel,by decide +kernel⟩
theorem Txt.aeu (T : Txt Pa K mg A) : Binds K A.rK ["self"] []:=T.Fp.binds (ps:=["self"]) fun _ _ _ _ _ _ us hl => match us,hl with | [_],_ => rfl
theorem Ia : aX ["self","message"] ["self","message"] (ab jc):=⟨rfl,rfl,rfl,by decide +kernel,rfl,by decide +kernel,by decide +kernel⟩
theorem Txt.oo (T : Txt Pa K mg A) : Binds K A.rJ ["self","message"] []:=T.Fo.binds (ps:=["self","message"]) fun _ _ _ _ _ _ us hl => match us,hl with | [_,_],_ => rfl
theorem Ic : aX ["self","k"] ["self","k"] (ab je):=⟨rfl,rfl,rfl,by decide +kernel,rfl,by decide +kernel,by decide +kernel⟩
theorem Txt.oq (T : Txt Pa K mg A) : Binds K A.rL ["self","k"] []:=T.Fq.binds (ps:=["self","k"]) fun _ _ _ _ _ _ us hl => match us,hl with | [_,_],_ => rfl
theorem HZ : aX ["self","k"] ["self","k"] (ab jb):=⟨rfl,rfl,rfl,by decide +kernel,rfl,by decide +kernel,by decide +kernel⟩
theorem Txt.Q7 (T : Txt Pa K mg A) : Binds K A.rH ["self","k"] []:=T.Fn.binds (ps:=["self","k"]) fun _ _ _ _ _ _ us hl => match us,hl with | [_,_],_ => rfl
theorem HY : aX ["self","taken"] ["self"] (ab ja):=⟨rfl,rfl,rfl,by decide +kernel,rfl,by decide +kernel,by decide +kernel⟩
theorem Txt.aet (T : Txt Pa K mg A) : Binds K A.rG ["self"] []:=T.Fm.binds (ps:=["self"]) fun _ _ _ _ _ _ us hl => match us,hl with | [_],_ => rfl
theorem Hl : aX ["stands"] ["stands"] (ab iD):=⟨rfl,rfl,rfl,by decide +kernel,rfl,by decide +kernel,by decide +kernel⟩
theorem Txt.om (T : Txt Pa K mg A) : Binds K A.qQ ["stands"] []:=T.kZ.binds (ps:=["stands"]) fun _ _ _ _ _ _ us hl => match us,hl with | [_],_ => rfl
theorem ID : aX ["self","cap"] ["self","cap"] (ab jA):=⟨rfl,rfl,rfl,by decide +kernel,rfl,by decide +kernel,by decide +kernel⟩
theorem Txt.aeH (T : Txt Pa K mg A) : Binds K A.sh ["self","cap"] []:=T.FO.binds (ps:=["self","cap"]) fun _ _ _ _ _ _ us hl => match us,hl with | [_,_],_ => rfl
theorem Ie : aX ["self","r","no","f","seats","stands"] ["self","r","no","f","seats","stands"] (ab jf):=⟨rfl,rfl,rfl,by decide +kernel,rfl,by decide +kernel,by decide +kernel⟩
theorem Txt.aev (T : Txt Pa K mg A) : Binds K A.rM ["self","r","no","f","seats","stands"] []:=T.Fs.binds (ps:=["self","r","no","f","seats","stands"]) fun _ _ _ _ _ _ us hl => match us,hl with | [_,_,_,_,_,_],_ => rfl
theorem Ir : aX ["self","net"] ["self","net"] (ab jr):=⟨rfl,rfl,rfl,by decide +kernel,rfl,by decide +kernel,by decide +kernel⟩
theorem Txt.aeA (T : Txt Pa K mg A) : Binds K A.rY ["self","net"] []:=T.FE.binds (ps:=["self","net"]) fun _ _ _ _ _ _ us hl => match us,hl with | [_,_],_ => rfl
theorem Io : aX ["self","f","stands","sale"] ["self","f","stands"] (ab gk):=⟨rfl,rfl,rfl,by decide +kernel,rfl,by decide +kernel,by decide +kernel⟩
theorem Txt.ou (T : Txt Pa K mg A) : Binds K A.rV ["self","f","stands"] []:=T.FA.binds (ps:=["self","f","stands"]) fun _ _ _ _ _ _ us hl => match us,hl with | [_,_,_],_ => rfl
theorem Iu : aX ["self","f","sale"] ["self","f"] (ab gm):=⟨rfl,rfl,rfl,by decide +kernel,rfl,by decide +kernel,by decide +kernel⟩
theorem Txt.Du (T : Txt Pa K mg A) : Binds K A.rZ ["self","f"] []:=T.FF.binds (ps:=["self","f"]) fun _ _ _ _ _ _ us hl => match us,hl with | [_,_],_ => rfl
theorem Il : aX ["self","f"] ["self","f"] (ab jm):=⟨rfl,rfl,rfl,by decide +kernel,rfl,by decide +kernel,by decide +kernel⟩
theorem Txt.Q8 (T : Txt Pa K mg A) : Binds K A.rS ["self","f"] []:=T.Fy.binds (ps:=["self","f"]) fun _ _ _ _ _ _ us hl => match us,hl with | [_,_],_ => rfl
theorem Ip : aX ["self","f"] ["self","f"] (ab jo):=⟨rfl,rfl,rfl,by decide +kernel,rfl,by decide +kernel,by decide +kernel⟩
theorem Txt.Q9 (T : Txt Pa K mg A) : Binds K A.rW ["self","f"] []:=T.FC.binds (ps:=["self","f"]) fun _ _ _ _ _ _ us hl => match us,hl with | [_,_],_ => rfl
theorem Ih : aX ["self","sale"] ["self","sale"] (ab jh):=⟨rfl,rfl,rfl,by decide +kernel,rfl,by decide +kernel,by decide +kernel⟩
theorem Txt.ot (T : Txt Pa K mg A) : Binds K A.rO ["self","sale"] []:=T.Fu.binds (ps:=["self","sale"]) fun _ _ _ _ _ _ us hl => match us,hl with | [_,_],_ => rfl
theorem Iq : aX ["self","r","no","f","seats","stands","sale"] ["self","r","no","f","seats","stands"] (ab jq):=⟨rfl,rfl,rfl,by decide +kernel,rfl,by decide +kernel,by decide +kernel⟩
theorem Txt.Ra (T : Txt Pa K mg A) : Binds K A.rX ["self","r","no","f","seats","stands"] []:=T.FD.binds (ps:=["self","r","no","f","seats","stands"]) fun _ _ _ _ _ _ us hl => match us,hl with | [_,_,_,_,_,_],_ => rfl
theorem Ig : aX ["self","sale","stands"] ["self","sale","stands"] (ab jg):=⟨rfl,rfl,rfl,by decide +kernel,rfl,by decide +kernel,by decide +kernel⟩
theorem Txt.sF (T : Txt Pa K mg A) : Binds K A.rN ["self","sale","stands"] []:=T.Ft.binds (ps:=["self","sale","stands"]) fun _ _ _ _ _ _ us hl => match us,hl with | [_,_,_],_ => rfl
theorem IA : aX ["self","f","sale"] ["self","f"] (ab jx):=⟨rfl,rfl,rfl,by decide +kernel,rfl,by decide +kernel,by decide +kernel⟩
theorem Txt.Rb (T : Txt Pa K mg A) : Binds K A.r9 ["self","f"] []:=T.FK.binds (ps:=["self","f"]) fun _ _ _ _ _ _ us hl => match us,hl with | [_,_],_ => rfl
theorem Ii : aX ["self","f","sale"] ["self","f"] (ab ji):=⟨rfl,rfl,rfl,by decide +kernel,rfl,by decide +kernel,by decide +kernel⟩
theorem Txt.aew (T : Txt Pa K mg A) : Binds K A.rP ["self","f"] []:=T.Fv.binds (ps:=["self","f"]) fun _ _ _ _ _ _ us hl => match us,hl with | [_,_],_ => rfl
theorem IB : aX ["self","f","cap"] ["self","f","cap"] (ab jy):=⟨rfl,rfl,rfl,by decide +kernel,rfl,by decide +kernel,by decide +kernel⟩
theorem Txt.aeF (T : Txt Pa K mg A) : Binds K A.sf ["self","f","cap"] []:=T.FL.binds (ps:=["self","f","cap"]) fun _ _ _ _ _ _ us hl => match us,hl with | [_,_,_],_ => rfl
theorem Ik : aX ["self","f","sale"] ["self","f"] (ab jk):=⟨rfl,rfl,rfl,by decide +kernel,rfl,by decide +kernel,by decide +kernel⟩
theorem Txt.aey (T : Txt Pa K mg A) : Binds K A.rR ["self","f"] []:=T.Fx.binds (ps:=["self","f"]) fun _ _ _ _ _ _ us hl => match us,hl with | [_,_],_ => rfl
theorem Ij : aX ["self","f","seats"] ["self","f","seats"] (ab jj):=⟨rfl,rfl,rfl,by decide +kernel,rfl,by decide +kernel,by decide +kernel⟩
theorem Txt.aex (T : Txt Pa K mg A) : Binds K A.rQ ["self","f","seats"] []:=T.Fw.binds (ps:=["self","f","seats"]) fun _ _ _ _ _ _ us hl => match us,hl with | [_,_,_],_ => rfl
theorem Iw : aX ["self","r","no","f","seats","sale"] ["self","r","no","f","seats"] (ab ju):=⟨rfl,rfl,rfl,by decide +kernel,rfl,by decide +kernel,by decide +kernel⟩
theorem Txt.aeC (T : Txt Pa K mg A) : Binds K A.r4 ["self","r","no","f","seats"] []:=T.FH.binds (ps:=["self","r","no","f","seats"]) fun _ _ _ _ _ _ us hl => match us,hl with | [_,_,_,_,_],_ => rfl
theorem Iv : aX ["self","r","no","sale"] ["self","r","no"] (ab jt):=⟨rfl,rfl,rfl,by decide +kernel,rfl,by decide +kernel,by decide +kernel⟩
theorem Txt.aeB (T : Txt Pa K mg A) : Binds K A.r0 ["self","r","no"] []:=T.FG.binds (ps:=["self","r","no"]) fun _ _ _ _ _ _ us hl => match us,hl with | [_,_,_],_ => rfl
theorem Iy : aX ["self","r","no","version","sale"] ["self","r","no","version"] (ab jv):=⟨rfl,rfl,rfl,by decide +kernel,rfl,by decide +kernel,by decide +kernel⟩
theorem Txt.aeD (T : Txt Pa K mg A) : Binds K A.r6 ["self","r","no","version"] []:=T.FI.binds (ps:=["self","r","no","version"]) fun _ _ _ _ _ _ us hl => match us,hl with | [_,_,_,_],_ => rfl
theorem Iz : aX ["self","message"] ["self","message"] (ab jw):=⟨rfl,rfl,rfl,by decide +kernel,rfl,by decide +kernel,by decide +kernel⟩
theorem Txt.aeE (T : Txt Pa K mg A) : Binds K A.r8 ["self","message"] []:=T.FJ.binds (ps:=["self","message"]) fun _ _ _ _ _ _ us hl => match us,hl with | [_,_],_ => rfl
theorem Im : aX ["self","sale"] ["self"] (ab jn):=⟨rfl,rfl,rfl,by decide +kernel,rfl,by decide +kernel,by decide +kernel⟩
theorem Txt.aez (T : Txt Pa K mg A) : Binds K A.rT ["self"] []:=T.Fz.binds (ps:=["self"]) fun _ _ _ _ _ _ us hl => match us,hl with | [_],_ => rfl
theorem HX : aX ["self","r","no","f","seats"] ["self","r","no","f","seats"] (ab i9):=⟨rfl,rfl,rfl,by decide +kernel,rfl,by decide +kernel,by decide +kernel⟩
theorem Txt.aes (T : Txt Pa K mg A) : Binds K A.rF ["self","r","no","f","seats"] []:=T.Fl.binds (ps:=["self","r","no","f","seats"]) fun _ _ _ _ _ _ us hl => match us,hl with | [_,_,_,_,_],_ => rfl
theorem HR : aX ["self","net"] ["self","net"] (ab i4):=⟨rfl,rfl,rfl,by decide +kernel,rfl,by decide +kernel,by decide +kernel⟩
theorem Txt.aep (T : Txt Pa K mg A) : Binds K A.rA ["self","net"] []:=T.Ff.binds (ps:=["self","net"]) fun _ _ _ _ _ _ us hl => match us,hl with | [_,_],_ => rfl
theorem HW : aX ["self","sale"] ["self","sale"] (ab i8):=⟨rfl,rfl,rfl,by decide +kernel,rfl,by decide +kernel,by decide +kernel⟩
theorem Txt.Q6 (T : Txt Pa K mg A) : Binds K A.rE ["self","sale"] []:=T.Fj.binds (ps:=["self","sale"]) fun _ _ _ _ _ _ us hl => match us,hl with | [_,_],_ => rfl
theorem HV : aX ["self","sale"] ["self","sale"] (ab i7):=⟨rfl,rfl,rfl,by decide +kernel,rfl,by decide +kernel,by decide +kernel⟩
theorem Txt.Q5 (T : Txt Pa K mg A) : Binds K A.rD ["self","sale"] []:=T.Fi.binds (ps:=["self","sale"]) fun _ _ _ _ _ _ us hl => match us,hl with | [_,_],_ => rfl
theorem HP : aX ["self","r","f","seats","no","sale"] ["self","r","f","seats"] (ab gj):=⟨rfl,rfl,rfl,by decide +kernel,rfl,by decide +kernel,by decide +kernel⟩
theorem Txt.aen (T : Txt Pa K mg A) : Binds K A.rq ["self","r","f","seats"] []:=T.Fd.binds (ps:=["self","r","f","seats"]) fun _ _ _ _ _ _ us hl => match us,hl with | [_,_,_,_],_ => rfl
theorem HU : aX ["self","sale"] ["self","sale"] (ab i6):=⟨rfl,rfl,rfl,by decide +kernel,rfl,by decide +kernel,by decide +kernel⟩
theorem Txt.aer (T : Txt Pa K mg A) : Binds K A.rC ["self","sale"] []:=T.Fh.binds (ps:=["self","sale"]) fun _ _ _ _ _ _ us hl => match us,hl with | [_,_],_ => rfl
theorem HS : aX ["self","r","no","version","stands","sale"] ["self","r","no","version","stands"] (ab i5):=⟨rfl,rfl,rfl,by decide +kernel,rfl,by decide +kernel,by decide +kernel⟩
theorem Txt.aeq (T : Txt Pa K mg A) : Binds K A.rB ["self","r","no","version","stands"] []:=T.Fg.binds (ps:=["self","r","no","version","stands"]) fun _ _ _ _ _ _ us hl => match us,hl with | [_,_,_,_,_],_ => rfl
theorem HQ : aX ["self","sale"] ["self"] (ab i3):=⟨rfl,rfl,rfl,by decide +kernel,rfl,by decide +kernel,by decide +kernel⟩
theorem Txt.aeo (T : Txt Pa K mg A) : Binds K A.rz ["self"] []:=T.Fe.binds (ps:=["self"]) fun _ _ _ _ _ _ us hl => match us,hl with | [_],_ => rfl
theorem HK : aX ["signs","sign"] ["signs"] (ab gi):=⟨rfl,rfl,rfl,by decide +kernel,rfl,by decide +kernel,by decide +kernel⟩
theorem Txt.sE (T : Txt Pa K mg A) : Binds K A.rn ["signs"] []:=T.lO.binds (ps:=["signs"]) fun _ _ _ _ _ _ us hl => match us,hl with | [_],_ => rfl
theorem Ha : aX ["message","form","pieces","name","number"] ["message"] (ab ip):=⟨rfl,rfl,rfl,by decide +kernel,rfl,by decide +kernel,by decide +kernel⟩
theorem Txt.adT (T : Txt Pa K mg A) : Binds K A.qF ["message"] []:=T.sR.binds (ps:=["message"]) fun _ _ _ _ _ _ us hl => match us,hl with | [_],_ => rfl
theorem Hi : aX ["text","pieces","byte"] ["text"] (ab iB):=⟨rfl,rfl,rfl,by decide +kernel,rfl,by decide +kernel,by decide +kernel⟩
theorem Txt.ad0 (T : Txt Pa K mg A) : Binds K A.qN ["text"] []:=T.sY.binds (ps:=["text"]) fun _ _ _ _ _ _ us hl => match us,hl with | [_],_ => rfl
theorem Hg : aX ["piece","bounds","number","byte"] ["piece","bounds"] (ab iz):=⟨rfl,rfl,rfl,by decide +kernel,rfl,by decide +kernel,by decide +kernel⟩
theorem Txt.adY (T : Txt Pa K mg A) : Binds K A.qL ["piece","bounds"] []:=T.sW.binds (ps:=["piece","bounds"]) fun _ _ _ _ _ _ us hl => match us,hl with | [_,_],_ => rfl
theorem Hh : aX ["piece","at","letter"] ["piece"] (ab iA):=⟨rfl,rfl,rfl,by decide +kernel,rfl,by decide +kernel,by decide +kernel⟩
theorem Txt.adZ (T : Txt Pa K mg A) : Binds K A.qM ["piece"] []:=T.sX.binds (ps:=["piece"]) fun _ _ _ _ _ _ us hl => match us,hl with | [_],_ => rfl
theorem Hf : aX ["form","pieces","numbers","name","piece","number"] ["form","pieces"] (ab iy):=⟨rfl,rfl,rfl,by decide +kernel,rfl,by decide +kernel,by decide +kernel⟩
theorem Txt.adX (T : Txt Pa K mg A) : Binds K A.qK ["form","pieces"] []:=T.sV.binds (ps:=["form","pieces"]) fun _ _ _ _ _ _ us hl => match us,hl with | [_,_],_ => rfl
theorem He : aX ["text","pieces","kind","form","numbers"] ["text"] (ab iw):=⟨rfl,rfl,rfl,by decide +kernel,rfl,by decide +kernel,by decide +kernel⟩
theorem Txt.adW (T : Txt Pa K mg A) : Binds K A.qJ ["text"] []:=T.sU.binds (ps:=["text"]) fun _ _ _ _ _ _ us hl => match us,hl with | [_],_ => rfl
theorem IC : aX ["self"] ["self"] (ab jz):=⟨rfl,rfl,rfl,by decide +kernel,rfl,by decide +kernel,by decide +kernel⟩
theorem Txt.aeG (T : Txt Pa K mg A) : Binds K A.sg ["self"] []:=T.FN.binds (ps:=["self"]) fun _ _ _ _ _ _ us hl => match us,hl with | [_],_ => rfl
theorem Hm : aX ["inventory","f"] ["inventory","f"] (ab iE):=⟨rfl,rfl,rfl,by decide +kernel,rfl,by decide +kernel,by decide +kernel⟩
theorem Txt.Q3 (T : Txt Pa K mg A) : Binds K A.qR ["inventory","f"] []:=T.oI.binds (ps:=["inventory","f"]) fun _ _ _ _ _ _ us hl => match us,hl with | [_,_],_ => rfl
theorem HE : aX ["houses","numbers","flights"] ["houses","numbers"] (ab iR):=⟨rfl,rfl,rfl,by decide +kernel,rfl,by decide +kernel,by decide +kernel⟩
theorem Txt.aeg (T : Txt Pa K mg A) : Binds K A.rf ["houses","numbers"] []:=T.tK.binds (ps:=["houses","numbers"]) fun _ _ _ _ _ _ us hl => match us,hl with | [_,_],_ => rfl
theorem HH : aX ["houses","numbers","refusal","before"] ["houses","numbers"] (ab iU):=⟨rfl,rfl,rfl,by decide +kernel,rfl,by decide +kernel,by decide +kernel⟩
theorem Txt.aej (T : Txt Pa K mg A) : Binds K A.rk ["houses","numbers"] []:=T.tN.binds (ps:=["houses","numbers"]) fun _ _ _ _ _ _ us hl => match us,hl with | [_,_],_ => rfl
theorem Hr : aX ["houses","numbers","refusal","before"] ["houses","numbers"] (ab iI):=⟨rfl,rfl,rfl,by decide +kernel,rfl,by decide +kernel,by decide +kernel⟩
theorem Txt.ad7 (T : Txt Pa K mg A) : Binds K A.qV ["houses","numbers"] []:=T.tu.binds (ps:=["houses","numbers"]) fun _ _ _ _ _ _ us hl => match us,hl with | [_,_],_ => rfl
theorem Ht : aX ["houses","numbers"] ["houses","numbers"] (ab iK):=⟨rfl,rfl,rfl,by decide +kernel,rfl,by decide +kernel,by decide +kernel⟩
theorem Txt.ad9 (T : Txt Pa K mg A) : Binds K A.qX ["houses","numbers"] []:=T.tD.binds (ps:=["houses","numbers"]) fun _ _ _ _ _ _ us hl => match us,hl with | [_,_],_ => rfl
theorem HD : aX ["houses","numbers","sale"] ["houses","numbers"] (ab iQ):=⟨rfl,rfl,rfl,by decide +kernel,rfl,by decide +kernel,by decide +kernel⟩
theorem Txt.aef (T : Txt Pa K mg A) : Binds K A.rb ["houses","numbers"] []:=T.tJ.binds (ps:=["houses","numbers"]) fun _ _ _ _ _ _ us hl => match us,hl with | [_,_],_ => rfl
theorem HL : aX ["houses","message"] ["houses","message"] (ab iX):=⟨rfl,rfl,rfl,by decide +kernel,rfl,by decide +kernel,by decide +kernel⟩
theorem Txt.Q4 (T : Txt Pa K mg A) : Binds K A.ro ["houses","message"] []:=T.oJ.binds (ps:=["houses","message"]) fun _ _ _ _ _ _ us hl => match us,hl with | [_,_],_ => rfl
theorem HG : aX ["houses","numbers","before"] ["houses","numbers"] (ab iT):=⟨rfl,rfl,rfl,by decide +kernel,rfl,by decide +kernel,by decide +kernel⟩
theorem Txt.aei (T : Txt Pa K mg A) : Binds K A.rj ["houses","numbers"] []:=T.tM.binds (ps:=["houses","numbers"]) fun _ _ _ _ _ _ us hl => match us,hl with | [_,_],_ => rfl
theorem Hy : aX ["houses","numbers"] ["houses","numbers"] (ab iO):=⟨rfl,rfl,rfl,by decide +kernel,rfl,by decide +kernel,by decide +kernel⟩
theorem Txt.aed (T : Txt Pa K mg A) : Binds K A.q4 ["houses","numbers"] []:=T.tH.binds (ps:=["houses","numbers"]) fun _ _ _ _ _ _ us hl => match us,hl with | [_,_],_ => rfl
theorem HF : aX ["houses","numbers"] ["houses","numbers"] (ab iS):=⟨rfl,rfl,rfl,by decide +kernel,rfl,by decide +kernel,by decide +kernel⟩
theorem Txt.aeh (T : Txt Pa K mg A) : Binds K A.rh ["houses","numbers"] []:=T.tL.binds (ps:=["houses","numbers"]) fun _ _ _ _ _ _ us hl => match us,hl with | [_,_],_ => rfl
theorem Hd : aX ["houses"] ["houses"] (ab iu):=⟨rfl,rfl,rfl,by decide +kernel,rfl,by decide +kernel,by decide +kernel⟩
theorem Txt.QZ (T : Txt Pa K mg A) : Binds K A.qI ["houses"] []:=T.oH.binds (ps:=["houses"]) fun _ _ _ _ _ _ us hl => match us,hl with | [_],_ => rfl
theorem HJ : aX ["houses","numbers","before"] ["houses","numbers"] (ab iW):=⟨rfl,rfl,rfl,by decide +kernel,rfl,by decide +kernel,by decide +kernel⟩
theorem Txt.ael (T : Txt Pa K mg A) : Binds K A.rm ["houses","numbers"] []:=T.tP.binds (ps:=["houses","numbers"]) fun _ _ _ _ _ _ us hl => match us,hl with | [_,_],_ => rfl
theorem HI : aX ["houses","numbers","delivered","message"] ["houses","numbers"] (ab iV):=⟨rfl,rfl,rfl,by decide +kernel,rfl,by decide +kernel,by decide +kernel⟩
theorem Txt.aek (T : Txt Pa K mg A) : Binds K A.rl ["houses","numbers"] []:=T.tO.binds (ps:=["houses","numbers"]) fun _ _ _ _ _ _ us hl => match us,hl with | [_,_],_ => rfl
theorem Hn : aX ["houses","numbers","sale"] ["houses","numbers"] (ab iF):=⟨rfl,rfl,rfl,by decide +kernel,rfl,by decide +kernel,by decide +kernel⟩
theorem Txt.ad4 (T : Txt Pa K mg A) : Binds K A.qS ["houses","numbers"] []:=T.tm.binds (ps:=["houses","numbers"]) fun _ _ _ _ _ _ us hl => match us,hl with | [_,_],_ => rfl
theorem Ho : aX ["houses","numbers","sale"] ["houses","numbers"] (ab iG):=⟨rfl,rfl,rfl,by decide +kernel,rfl,by decide +kernel,by decide +kernel⟩
theorem Txt.ad5 (T : Txt Pa K mg A) : Binds K A.qT ["houses","numbers"] []:=T.tp.binds (ps:=["houses","numbers"]) fun _ _ _ _ _ _ us hl => match us,hl with | [_,_],_ => rfl
theorem Hu : aX ["houses","numbers","flight"] ["houses","numbers"] (ab iL):=⟨rfl,rfl,rfl,by decide +kernel,rfl,by decide +kernel,by decide +kernel⟩
theorem Txt.aea (T : Txt Pa K mg A) : Binds K A.qY ["houses","numbers"] []:=T.tE.binds (ps:=["houses","numbers"]) fun _ _ _ _ _ _ us hl => match us,hl with | [_,_],_ => rfl
theorem Hz : aX ["houses","numbers","told","sale"] ["houses","numbers"] (ab iP):=⟨rfl,rfl,rfl,by decide +kernel,rfl,by decide +kernel,by decide +kernel⟩
theorem Txt.aee (T : Txt Pa K mg A) : Binds K A.q5 ["houses","numbers"] []:=T.tI.binds (ps:=["houses","numbers"]) fun _ _ _ _ _ _ us hl => match us,hl with | [_,_],_ => rfl
theorem Hw : aX ["houses","numbers"] ["houses","numbers"] (ab iN):=⟨rfl,rfl,rfl,by decide +kernel,rfl,by decide +kernel,by decide +kernel⟩
theorem Txt.aec (T : Txt Pa K mg A) : Binds K A.q0 ["houses","numbers"] []:=T.tG.binds (ps:=["houses","numbers"]) fun _ _ _ _ _ _ us hl => match us,hl with | [_,_],_ => rfl
theorem Hq : aX ["houses","numbers"] ["houses","numbers"] (ab iH):=⟨rfl,rfl,rfl,by decide +kernel,rfl,by decide +kernel,by decide +kernel⟩
theorem Txt.ad6 (T : Txt Pa K mg A) : Binds K A.qU ["houses","numbers"] []:=T.tq.binds (ps:=["houses","numbers"]) fun _ _ _ _ _ _ us hl => match us,hl with | [_,_],_ => rfl
theorem Hv : aX ["houses","numbers","told"] ["houses","numbers"] (ab iM):=⟨rfl,rfl,rfl,by decide +kernel,rfl,by decide +kernel,by decide +kernel⟩
theorem Txt.aeb (T : Txt Pa K mg A) : Binds K A.qZ ["houses","numbers"] []:=T.tF.binds (ps:=["houses","numbers"]) fun _ _ _ _ _ _ us hl => match us,hl with | [_,_],_ => rfl
theorem Hk : aX ["own","kept"] ["own","kept"] (ab iC):=⟨rfl,rfl,rfl,by decide +kernel,rfl,by decide +kernel,by decide +kernel⟩
theorem Txt.ad3 (T : Txt Pa K mg A) : Binds K A.qP ["own","kept"] []:=T.tj.binds (ps:=["own","kept"]) fun _ _ _ _ _ _ us hl => match us,hl with | [_,_],_ => rfl
theorem Hs : aX ["houses","numbers","key","own"] ["houses","numbers"] (ab iJ):=⟨rfl,rfl,rfl,by decide +kernel,rfl,by decide +kernel,by decide +kernel⟩
theorem Txt.ad8 (T : Txt Pa K mg A) : Binds K A.qW ["houses","numbers"] []:=T.tw.binds (ps:=["houses","numbers"]) fun _ _ _ _ _ _ us hl => match us,hl with | [_,_],_ => rfl
theorem Hc : aX ["calls","parts","at","place","begin","size"] ["calls"] (ab ir):=⟨rfl,rfl,rfl,by decide +kernel,rfl,by decide +kernel,by decide +kernel⟩
theorem Txt.adV (T : Txt Pa K mg A) : Binds K A.qH ["calls"] []:=T.sT.binds (ps:=["calls"]) fun _ _ _ _ _ _ us hl => match us,hl with | [_],_ => rfl
theorem Hj : aX ["numbers","number"] ["numbers"] (ab gh):=⟨rfl,rfl,rfl,by decide +kernel,rfl,by decide +kernel,by decide +kernel⟩
theorem Txt.ad2 (T : Txt Pa K mg A) : Binds K A.qO ["numbers"] []:=T.sZ.binds (ps:=["numbers"]) fun _ _ _ _ _ _ us hl => match us,hl with | [_],_ => rfl
theorem Hb : aX ["place","numbers","number","bounds"] ["place","numbers"] (ab iq):=⟨rfl,rfl,rfl,by decide +kernel,rfl,by decide +kernel,by decide +kernel⟩
theorem Txt.adU (T : Txt Pa K mg A) : Binds K A.qG ["place","numbers"] []:=T.sS.binds (ps:=["place","numbers"]) fun _ _ _ _ _ _ us hl => match us,hl with | [_,_],_ => rfl
theorem HN : aX ["houses","place","numbers"] ["houses","place","numbers"] (ab iZ):=⟨rfl,rfl,rfl,by decide +kernel,rfl,by decide +kernel,by decide +kernel⟩
theorem Txt.aem (T : Txt Pa K mg A) : Binds K A.rp ["houses","place","numbers"] []:=T.tQ.binds (ps:=["houses","place","numbers"]) fun _ _ _ _ _ _ us hl => match us,hl with | [_,_,_],_ => rfl
theorem HM : aX ["calls","houses","given","place","numbers","told"] ["calls"] (ab iY):=⟨rfl,rfl,rfl,by decide +kernel,rfl,by decide +kernel,by decide +kernel⟩
end
end Sh
end
section
namespace L2
open PySem PySem.Spec PyProof.Rows
theorem bg {X : Cx} {x : Str} {i : Int} {pos : Pos} (h : ∃ t,X.mg x = some (.int i t)) (hg : Gl X x:=by rfl) (hd : (x == ("__debug__" : Str)) = false:=by decide) : PE X (.Name x pos) (tC (.int i)):=by
 obtain ⟨t,h⟩:=h
 exact fv hg h ⟨t,rfl⟩ hd
theorem pb {X : Cx} {K : PySem.W.Frag} {e : Expr} {f : Str} {pos : Pos} {ta : TE} (hK : X.K = K) (he : PE X e ta) (hb : attributeBase e f X.env (eval e X.env) = eval e X.env) : PE X (.Attribute e f pos) (oY K ta f):=by
 subst hK
 exact ai he hb
theorem adM : bootBuiltins "all" = some (.builtin "all"):=by decide +kernel
theorem adL : bootBuiltins "ord" = some (.builtin "ord"):=by decide +kernel
theorem QQ : bootBuiltins "str" = some (.type "str"):=by decide +kernel
theorem adK : bootBuiltins "sum" = some (.builtin "sum"):=by decide +kernel
theorem Ds : bootBuiltins "list" = some (.type "list"):=by decide +kernel
end L2
namespace Sh
open PySem PySem.Spec PyProof.Rows L2
open Vbahap (State Truth View Flight Msg)
theorem lt1000 {n : Nat} (h : n ≤ 7) : n < 1000:=Nat.lt_of_le_of_lt h (by decide)
section
variable {P : Program} {w : World} {K : PySem.W.Frag} {mg : Str → Option Value} {base : Heap} {A : Ad}
def U6 (A : Ad) : Sp:=fun vs H Q _ => ∃ (p dx : Addr),vs = [.ref p] ∧ H p = some (.ins A.a5 dx []) ∧
 ∀ (H' : Hp) (l : Addr),cq H' p A.a5 (cN l 0) → H l = none → H' l = some (.lst []) → (∀ b o,H b = some o → b ≠ p → H' b = some o) → Q .aC H'
theorem Ye (T : Txt w.params K mg A) : aE P w K mg base aQ 1 A.gO A.rK ["self"] (U6 A):=by
 have nd:=Ib.nd
 refine T.Fp.ok Ib (fun vs H Q E h => ?_) (fun cdv AA outer s H vs Q E hr h => ?_)
 ·obtain ⟨p,dx,rfl,hp,k⟩:=h
  rfl
 ·obtain ⟨p,dx,rfl,hp,k⟩:=h
  have hu:=aZ hr
  refine ⟨_,(au (bQ (pv 0) (bA ae) rfl)
   (ah (bQ (pv 0) ay rfl))),?_⟩
  refine ⟨Nat.zero_le _,fun l hl => ?_⟩
  have npl : p ≠ l:=bj hp hl
  have hp1 : upd H l (.lst []) p = some (.ins A.a5 dx []):=by rw [ag npl]; exact hp
  refine ⟨_,rfl,p,A.a5,dx,_,rfl,hp1,T.bW,T.fz,Nat.zero_lt_succ _,?_⟩
  refine ⟨_,rfl,p,A.a5,dx,_,rfl,af,T.bW,T.eP,(by rw [cn]; exact lt1000 (by simp only [List.length_cons,List.length_nil]; decide)),?_⟩
  refine k _ l ⟨dx,?_⟩ hl ?_ fun b o e hb => ?_
  ·rw [af,cn,aL (by decide +kernel) cn]
   rfl
  ·rw [ag npl.symm,ag npl.symm]
   exact af
  ·rw [ag hb,ag hb,ag (bj e hl)]
   exact e
def U5 (A : Ad) : Sp:=fun vs H Q _ => ∃ (W : Wd) (p : Addr) (m : Msg),vs = [.ref W.aN,.ref p] ∧ Rep A.toCs H W ∧ H p = some (.tup (dM m)) ∧ W.ms.length < sizeLine ∧
 ∀ H' : Hp,Rep A.toCs H' (W.push p m) → aO H W H' (W.push p m) → Q .aC H'
theorem ny (T : Txt w.params K mg A) : aE P w K mg base aQ 1 A.gN A.rJ ["self","message"] (U5 A):=by
 have nd:=Ia.nd
 refine T.Fo.ok Ia (fun vs H Q E h => ?_) (fun cdv AA outer s H vs Q E hr h => ?_)
 ·obtain ⟨W,p,m,rfl,R,hp,hl,k⟩:=h
  rfl
 ·obtain ⟨W,p,m,rfl,R,hp,hl,k⟩:=h
  have hu:=aZ hr
  refine ⟨_,(au (bB (gr PySem.F.plainAttrs_list PySem.F.slot_list_append PySem.F.type_list_append lr (ai (pv 0) rfl) (aa (pv 1) ae)))
   (ah (bQ (pv 0) (cW jD (ai (pv 0) rfl) ay) rfl))),?_⟩
  obtain ⟨dx,hN⟩:=R.net
  have nMN : W.aM ≠ W.aN:=cz R.msg hN (by show (["l"] : List Str) ≠ (["messages","sent"] : List Str); decide +kernel)
  refine ⟨_,rfl,W.aN,A.a5,dx,_,_,rfl,hN,T.bW,T.fz,kG _ _,.inl ⟨rfl,_,az.of R.msg⟩,_,rfl,W.aM,_,_,rfl,rfl,R.msg,(by unfold bO; rw [List.length_map]; exact hl),?_⟩
  have hN1 : upd H W.aM (.lst (bO W.ms ++ [V.ref p])) W.aN = some (.ins A.a5 dx (cN W.aM W.bU)):=by rw [ag nMN.symm]; exact hN
  refine ⟨_,rfl,W.aN,A.a5,dx,_,_,rfl,hN1,T.bW,T.eP,jE _ _,_,_,rfl,rfl,_,rfl,W.aN,A.a5,dx,_,rfl,hN1,T.bW,T.eP,(by show 2 < 1000; decide),?_⟩
  have z:=R.push hp hN
  rw [Xp]
  exact k _ z.1 z.2
def uc (A : Ad) : Sp:=fun vs H Q _ => ∃ (W : Wd) (k : Nat),vs = [.ref W.aN,.int k] ∧ Rep A.toCs H W ∧ Q (.bl (decide (k < W.ms.length))) H
theorem nA (T : Txt w.params K mg A) : aE P w K mg base aQ 1 A.gP A.rL ["self","k"] (uc A):=by
 have nd:=Ic.nd
 refine T.Fq.ok Ic (fun vs H Q E h => ?_) (fun cdv AA outer s H vs Q E hr h => ?_)
 ·obtain ⟨W,i,rfl,R,k⟩:=h
  rfl
 ·obtain ⟨W,i,rfl,R,k⟩:=h
  have hu:=aZ hr
  refine ⟨_,(ah (aT (pf lg (pv 1) (dB fZ (by rfl) T.dX PySem.boot_len (aa (ai (pv 0) rfl) ae)) (bp _)))),?_⟩
  obtain ⟨dx,hN⟩:=R.net
  refine ⟨_,rfl,_,rfl,W.aN,A.a5,dx,_,_,rfl,hN,T.bW,T.fz,kG _ _,W.aM,_,rfl,.inl (az.of R.msg),_,_,rfl,rfl,?_⟩
  have e : decide ((i : Int) < ((bO W.ms).length : Int)) = decide (i < W.ms.length):=by
   unfold bO
   rw [List.length_map]
   exact decide_eq_decide.mpr (by omega)
  show Q (.bl (decide ((i : Int) < ((bO W.ms).length : Int)))) H
  rw [e]
  exact k
def U4 (A : Ad) : Sp:=fun vs H Q _ => ∃ (W : Wd) (k : Nat) (p : Addr × Msg),vs = [.ref W.aN,.int k] ∧ Rep A.toCs H W ∧ W.ms[k]? = some p ∧ W.ms.length < sizeLine ∧
 ∀ H' : Hp,Rep A.toCs H' (W.drop k) → aO H W H' (W.drop k) → Q (.ref p.1) H'
theorem KQ (T : Txt w.params K mg A) : aE P w K mg base aQ 1 A.gM A.rH ["self","k"] (U4 A):=by
 have nd:=HZ.nd
 refine T.Fn.ok HZ (fun vs H Q E h => ?_) (fun cdv AA outer s H vs Q E hr h => ?_)
 ·obtain ⟨W,i,p,rfl,R,hi,hl,k⟩:=h
  rfl
 ·obtain ⟨W,i,p,rfl,R,hi,hl,k⟩:=h
  have hu:=aZ hr
  refine ⟨_,(ah (aT (gr PySem.F.plainAttrs_list PySem.F.slot_list_pop PySem.F.type_list_pop aaZ (ai (pv 0) rfl) (aa (pv 1) ae)))),?_⟩
  obtain ⟨dx,hN⟩:=R.net
  have hlt : i < W.ms.length:=(List.getElem?_eq_some_iff.mp hi).1
  have hm : (bO W.ms)[i]? = some (V.ref p.1):=by unfold bO; rw [List.getElem?_map,hi]; rfl
  have e2 : (bO W.ms).length = W.ms.length:=by unfold bO; rw [List.length_map]
  refine ⟨_,rfl,W.aN,A.a5,dx,_,_,rfl,hN,T.bW,T.fz,kG _ _,.inl ⟨rfl,_,az.of R.msg⟩,_,rfl,W.aM,_,_,i,_,rfl,rfl,R.msg,by omega,?_,?_,hm,?_⟩
  ·rw [sizeLine_eq] at hl
   omega
  ·rw [e2]
   unfold seqIndex?
   simp
   omega
  ·have z:=R.drop i
   exact k _ z.1 z.2
def U3 (A : Ad) : Sp:=fun vs H Q _ => ∃ (W : Wd),vs = [.ref W.aN] ∧ Rep A.toCs H W ∧
 ∀ (H' : Hp) (l : Addr),Rep A.toCs H' (W.fresh l) → aO H W H' (W.fresh l) → H l = none → H' W.aM = some (.lst (bO W.ms)) → Q (.ref W.aM) H'
theorem Yd (T : Txt w.params K mg A) : aE P w K mg base aQ 1 A.gL A.rG ["self"] (U3 A):=by
 have nd:=HY.nd
 refine T.Fm.ok HY (fun vs H Q E h => ?_) (fun cdv AA outer s H vs Q E hr h => ?_)
 ·obtain ⟨W,rfl,R,k⟩:=h
  rfl
 ·obtain ⟨W,rfl,R,k⟩:=h
  have hu:=aZ hr
  refine ⟨_,(au (bI (i:=1) nd rfl (Or.inl rfl) (ai (pv 0) rfl))
   (au (bQ (pv 0) (bA ae) rfl)
   (ah (aT (pv 1))))),?_⟩
  obtain ⟨dx,hN⟩:=R.net
  refine ⟨_,rfl,W.aN,A.a5,dx,_,_,rfl,hN,T.bW,T.fz,kG _ _,?_⟩
  refine ⟨Nat.zero_le _,fun l hl => ?_⟩
  have hN1:=aU (o:=.lst []) hl _ _ hN
  refine ⟨_,rfl,W.aN,A.a5,dx,_,rfl,hN1,T.bW,T.fz,(by show 2 < 1000; decide),?_⟩
  rw [Xq]
  obtain ⟨z1,z2,z3⟩:=R.fresh hl hN
  exact ⟨_,rfl,k _ l z1 z2 hl z3⟩
def Uv (_ : Ad) : Sp:=fun vs H Q _ => ∃ (n : Nat),vs = [.int n] ∧ n ≤ 5 ∧ ∀ H',ao H H' → Q (.bl (Vbahap.final n)) H'
theorem nv (T : Txt w.params K mg A) : aE P w K mg base aQ 1 A.j4 A.qQ ["stands"] (Uv A):=by
 have nd:=Hl.nd
 refine T.kZ.ok Hl (fun vs H Q E h => ?_) (fun cdv AA outer s H vs Q E hr h => ?_)
 ·obtain ⟨n,rfl,hn,k⟩:=h
  rfl
 ·obtain ⟨n,rfl,hn,k⟩:=h
  have hu:=aZ hr
  refine ⟨_,(ah (aT (pf XS (pv 0) (dJ (aa (bg T.sv) (aa (bg T.sy) (aa (bg T.su) ae)))) (by with_unfolding_all rfl)))),?_⟩
  refine ⟨_,rfl,⟨by show 3 ≤ sizeLine; decide,fun p hp => ?_⟩⟩
  refine ⟨p,_,rfl,.inr (a4.of af),rfl,rfl,?_⟩
  have e : qr (V.int n) [V.int 3,V.int 4,V.int 5] = Vbahap.final n:=by
   have : n = 0 ∨ n = 1 ∨ n = 2 ∨ n = 3 ∨ n = 4 ∨ n = 5:=by omega
   rcases this with q | q | q | q | q | q <;> subst q <;> decide
  show Q (.bl (qr (V.int n) [V.int 3,V.int 4,V.int 5])) _
  rw [e]
  exact k _ (aU hp)
def Vr (A : Ad) : Sp:=fun vs H Q _ => ∃ (p dx : Addr) (x : Flight),vs = [.ref p,.int x.cap] ∧ x.shut = false ∧ H p = some (.ins A.bS dx []) ∧
 ∀ H' : Hp,cq H' p A.bS (d9 x) → (∀ b o,H b = some o → b ≠ p → H' b = some o) → Q .aC H'
theorem Yr (T : Txt w.params K mg A) : aE P w K mg base aQ 1 A.ib A.sh ["self","cap"] (Vr A):=by
 have nd:=ID.nd
 refine T.FO.ok ID (fun vs H Q E h => ?_) (fun cdv AA outer s H vs Q E hr h => ?_)
 ·obtain ⟨p,dx,x,rfl,hx,hp,k⟩:=h
  rfl
 ·obtain ⟨p,dx,x,rfl,hx,hp,k⟩:=h
  have hu:=aZ hr
  refine ⟨_,(au (bQ (pv 0) (pv 1) rfl)
   (ah (bQ (pv 0) jC rfl))),?_⟩
  refine ⟨_,rfl,_,rfl,p,A.bS,dx,_,rfl,hp,T.fY,T.l8,Nat.zero_lt_succ _,?_⟩
  refine ⟨_,rfl,p,A.bS,dx,_,rfl,af,T.fY,T.l7,(by rw [cn]; exact lt1000 (by simp only [List.length_cons,List.length_nil]; decide)),?_⟩
  refine k _ ⟨dx,?_⟩ fun b o e hb => ?_
  ·rw [af,cn,aL (by decide +kernel) cn]
   unfold d9
   rw [hx]
  ·rw [ag hb,ag hb]
   exact e
end
end Sh
end
section
namespace Sh
open PySem PySem.Spec PyProof.Rows L2
open Vbahap (State Truth View Flight Msg)
theorem F8 {H : Hp} {a D : Addr} {u x l : HO} (ha : H a = some u) (hne : D ≠ a) : upd (upd (upd H a x) D l) a u = upd H D l:=by
 funext b
 unfold upd
 by_cases h1 : b = a
 ·subst h1
  rw [if_pos rfl,if_neg (fun e => hne e.symm)]
  exact ha.symm
 ·rw [if_neg h1,if_neg h1]
theorem kr {H : Hp} {a D : Addr} {x : HO} (h : upd H a x D = none) : D ≠ a ∧ H D = none:=by
 have n : D ≠ a:=fun e => by rw [e,af] at h; cases h
 rw [ag n] at h
 exact ⟨n,h⟩
theorem take_snoc {α : Type} {l : List α} {i : Nat} {x : α} (h : l[i]? = some x) : l.take (i + 1) = l.take i ++ [x]:=by
 obtain ⟨hi,e⟩:=List.getElem?_eq_some_iff.mp h
 rw [List.take_succ_eq_append_getElem hi,e]
theorem dk {α : Type} {g : α → V} {l : List α} {i : Nat} {x : V} (h : (l.map g)[i]? = some x) : ∃ p,l[i]? = some p ∧ x = g p:=by
 rw [List.getElem?_map] at h
 cases e : l[i]? with
 | none => rw [e] at h; cases h
 | some p => rw [e] at h; exact ⟨p,rfl,(Option.some.inj h).symm⟩
theorem ie {a b : Nat} : decide (V.int (a : Int) = V.int (b : Int)) = decide (a = b):=by
 rw [decide_eq_decide]
 constructor
 ·intro h
  have:=V.int.inj h
  omega
 ·intro h
  rw [h]
def refs {α : Type} (l : List (Addr × α)) : List V:=l.map fun p => V.ref p.1
section
variable {P : Program} {w : World} {K : PySem.W.Frag} {mg : Str → Option Value} {base : Heap} {A : Ad}
def a9 (f st : Nat) (t : Truth) : Bool:=t.f == f && t.status == st
def Vf (A : Ad) : Sp:=fun vs H Q _ => ∃ (W : Wd) (f st : Nat),vs = [.ref W.aI,.int f,.int st] ∧ Rep A.toCs H W ∧ W.tr.length ≤ sizeLine ∧
 ∀ D,H D = none → Q (.ref D) (upd H D (.lst (refs (W.tr.filter fun p => a9 f st p.2))))
theorem nF (T : Txt w.params K mg A) : aE P w K mg base aQ 1 A.gZ A.rV ["self","f","stands"] (Vf A):=by
 have nd:=Io.nd
 refine T.FA.ok Io (fun vs H Q E h => ?_) (fun cdv AA outer s H vs Q E hr h => ?_)
 ·obtain ⟨W,f,st,rfl,R,hl,k⟩:=h
  rfl
 ·obtain ⟨W,f,st,rfl,R,hl,k⟩:=h
  have hu:=aZ hr
  refine ⟨_,(ah (aT (Kh (m9 (own:=[("sale",3)]) rfl nd (Kd (ai (pv 0) rfl)) (oh (N:=["self","f","stands","sale"]) (sc:=ab gk) (by decide +kernel)) (fun _ _ _ _ _ => ck (i:=3) nd rfl (Or.inl rfl)) (fun _ _ _ _ _ => IP (PW.pt (mZ (bz eA (pb (K:=K) rfl (pv 3) (by rfl)) (pv 1) (bp _)) (mY (bz eA (pb (K:=K) rfl (pv 3) (by rfl)) (pv 2) (bp _)))))) (fun _ _ _ _ _ => (pv 3)))))),?_⟩
  obtain ⟨dx,hI⟩:=R.inv
  refine ⟨W.aK,_,R.bJ,trivial,fun od => ?_⟩
  have hI0 : upd H W.aK (.a7 od (.dT (bY W.tr))) W.aI = some (.ins A.aG dx (gB W.aN W.aF W.aK)):=bq hI R.bJ (by show (["net","flights","kept"] : List Str) ≠ (["d"] : List Str); decide +kernel)
  refine ⟨_,rfl,W.aI,A.aG,dx,_,_,rfl,hI0,T.bb,T.fA,jF _ _ _,W.aK,od,_,rfl,af,fun D hD => ?_⟩
  obtain ⟨nDK,hD0⟩:=kr hD
  refine Lz (fun i H' => H' = upd (upd H W.aK (.a7 od (.dT (bY W.tr)))) D (.lst (refs ((W.tr.take i).filter fun p => a9 f st p.2)))) rfl (fun i H' _ e => ?_) (fun i kk x H' hi e => ?_) (fun H' e => ?_)
  ·subst e
   rw [ag nDK.symm]
   exact af
  ·subst e
   obtain ⟨p,hp,ex⟩ : ∃ p,W.tr[i]? = some p ∧ x = V.ref p.1:=by
    have hi' : (W.tr.map fun p => (bE p.2.r p.2.no,V.ref p.1))[i]? = some (kk,x):=hi
    rw [List.getElem?_map] at hi'
    cases e : W.tr[i]? with
    | none => rw [e] at hi'; cases hi'
    | some p => rw [e] at hi'; exact ⟨p,rfl,(congrArg Prod.snd (Option.some.inj hi')).symm⟩
   subst ex
   have hm : p ∈ W.tr:=List.mem_of_getElem? hp
   obtain ⟨dp,hpp⟩:=R.b9 p hm
   have n1 : p.1 ≠ W.aK:=cz hpp R.bJ (by show (["r","no","f","seats","stands","version","known"] : List Str) ≠ (["d"] : List Str); decide +kernel)
   have n2 : p.1 ≠ D:=bj hpp hD0
   have hp0 : upd (upd H W.aK (.a7 od (.dT (bY W.tr)))) D (.lst (refs ((W.tr.take i).filter fun p => a9 f st p.2))) p.1 = some (.ins A.aP dp (cx p.2)):=by
    rw [ag n2,ag n1]
    exact hpp
   have nx : (W.tr.take (i + 1)).filter (fun p => a9 f st p.2) = (W.tr.take i).filter (fun p => a9 f st p.2) ++ [p].filter fun p => a9 f st p.2:=by
    rw [take_snoc hp,List.filter_append]
   have no : a9 f st p.2 = false → upd (upd H W.aK (.a7 od (.dT (bY W.tr)))) D (.lst (refs ((W.tr.take i).filter fun p => a9 f st p.2))) = upd (upd H W.aK (.a7 od (.dT (bY W.tr)))) D (.lst (refs ((W.tr.take (i + 1)).filter fun p => a9 f st p.2))):=fun h => by
    rw [nx,List.filter_cons,if_neg (by rw [h]; decide),List.filter_nil,List.append_nil]
   refine ⟨rfl,?_⟩
   refine ⟨_,rfl,p.1,A.aP,dp,_,_,rfl,hp0,T.bM,T.nQ,xk _,_,rfl,rfl,_,rfl,?_⟩
   rw [ie]
   refine c7 (fun c => ?_) (fun c => ?_)
   ·have c1 : p.2.f = f:=of_decide_eq_true c
    refine ⟨_,rfl,p.1,A.aP,dp,_,_,rfl,hp0,T.bM,T.gy,lz _,_,rfl,rfl,_,rfl,?_⟩
    rw [ie]
    refine c7 (fun c => ?_) (fun c => ?_)
    ·have c2 : p.2.status = st:=of_decide_eq_true c
     refine ⟨_,rfl,_,af,?_,?_⟩
     ·unfold refs
      rw [List.length_map]
      have h1:=List.length_filter_le (fun p : Addr × Truth => a9 f st p.2) (W.tr.take i)
      have h2 : (W.tr.take i).length ≤ i:=List.length_take_le _ _
      have h3 : i < W.tr.length:=(List.getElem?_eq_some_iff.mp hp).1
      omega
     ·rw [cZ,nx,List.filter_cons,if_pos (by unfold a9; simp [c1,c2]),List.filter_nil]
      unfold refs
      rw [List.map_append]
      rfl
    ·exact no (by unfold a9; simp at c; simp [c])
   ·refine a8 ?_
    exact no (by unfold a9; simp at c; simp [c])
  ·have e' : H' = upd (upd H W.aK (.a7 od (.dT (bY W.tr)))) D (.lst (refs (W.tr.filter fun p => a9 f st p.2))):=by
    rw [e]
    unfold bY
    rw [List.length_map,List.take_length]
   subst e'
   refine ⟨by rw [ag nDK.symm]; exact af,?_⟩
   rw [F8 R.bJ nDK]
   exact k D hD0
end
end Sh
end
section
namespace Sh
open PySem PySem.Spec PyProof.Rows L2
open Vbahap (State Truth View Flight Msg)
theorem WR {H H1 H2 : Hp} (a : ao H H1) (b : ao H1 H2) : ao H H2:=fun c o h => b c o (a c o h)
theorem sum_ints : ∀ (l : List Nat),((l.map fun n : Nat => (n : Int)).sum) = ((Vbahap.sum l : Nat) : Int)
 | [] => rfl
 | a :: l => by
   rw [List.map_cons,List.sum_cons,sum_ints l]
   show (a : Int) + (Vbahap.sum l : Nat) = ((a + Vbahap.sum l : Nat) : Int)
   omega
theorem held_eq (W : Wd) (f : Nat) : Vbahap.heldOn W.st f = Vbahap.sum ((W.tr.filter fun p => a9 f 1 p.2).map fun p => p.2.n):=by
 unfold Vbahap.heldOn Wd.st
 simp only [List.filter_map,List.map_map]
 rfl
theorem tY (W : Wd) (f : Nat) : Vbahap.waitingOn W.st f = (W.tr.filter fun p => a9 f 2 p.2).map (·.2):=by
 unfold Vbahap.waitingOn Wd.st
 simp only [List.filter_map]
 rfl
def jB (s : State) (f : Nat) : Int:=match Vbahap.flightOf s f with
 | none => 0
 | some x => if x.shut = true then 0 else (x.cap : Int) - (Vbahap.heldOn s f : Int)
def dR (s : State) (f : Nat) : Bool:=match Vbahap.flightOf s f with
 | none => false
 | some x => !x.shut
theorem o7 {s : State} {f n : Nat} (hn : 1 ≤ n) : ((n : Int) ≤ jB s f) ↔ n ≤ Vbahap.roomOn s f:=by
 unfold jB Vbahap.roomOn
 cases Vbahap.flightOf s f with
 | none =>
   show (n : Int) ≤ 0 ↔ n ≤ 0
   omega
 | some x =>
   show ((n : Int) ≤ if x.shut = true then 0 else (x.cap : Int) - (Vbahap.heldOn s f : Int)) ↔ n ≤ if x.shut = true then 0 else x.cap - Vbahap.heldOn s f
   split
   ·omega
   ·omega
section
variable {P : Program} {w : World} {K : PySem.W.Frag} {mg : Str → Option Value} {base : Heap} {A : Ad}
def Vj (A : Ad) : Sp:=fun vs H Q _ => ∃ (W : Wd) (f : Nat),vs = [.ref W.aI,.int f] ∧ Rep A.toCs H W ∧ W.tr.length ≤ sizeLine ∧ ∀ H',ao H H' → Q (.int (Vbahap.heldOn W.st f : Nat)) H'
theorem vQ (T : Txt w.params K mg A) : aE P w K mg base aQ 2 A.hC A.rZ ["self","f"] (Vj A):=by
 have nd:=Iu.nd
 have ko:=nF (P:=P) (w:=w) (base:=base) T
 refine T.FF.ok Iu (fun vs H Q E h => ?_) (fun cdv AA outer s H vs Q E hr h => ?_)
 ·obtain ⟨W,f,rfl,R,hl,k⟩:=h
  rfl
 ·obtain ⟨W,f,rfl,R,hl,k⟩:=h
  have jO : aq 1 _:=hr.mono (by decide)
  have hu:=aZ hr
  refine ⟨_,(ah (aT (dB (adt rfl) (by rfl) T.K2 adK (aa (m9 (own:=[("sale",2)]) rfl nd (fu (bh (pv 0) T.bb T.mr ko jO T.ou .nil aB (aa (pv 1) (aa (bg T.og) ae)))) (oh (N:=["self","f","sale"]) (sc:=ab gm) (by decide +kernel)) (fun _ _ _ _ _ => ck (i:=2) nd rfl (Or.inl rfl)) (fun _ _ _ _ _ => uA) (fun _ _ _ _ _ => (pb (K:=K) rfl (pv 2) (by rfl)))) ae)))),?_⟩
  obtain ⟨dx,hI⟩:=R.inv
  refine ⟨_,rfl,W.aI,dx,_,rfl,hI,bR _ _ _ (by decide +kernel),_,rfl,W,f,1,rfl,R,hl,fun a ha => ?_⟩
  refine ⟨a,rfl,⟨_,az.of af⟩,fun D hD => ?_⟩
  have sa : ao H (upd H a (.lst (refs (W.tr.filter fun p => a9 f 1 p.2)))):=aU ha
  obtain ⟨nDa,hD0⟩:=kr hD
  refine LA (K:=K) (a:=a) (xs:=refs (W.tr.filter fun p => a9 f 1 p.2)) (fun i H' => H' = upd (upd H a (.lst (refs (W.tr.filter fun p => a9 f 1 p.2)))) D (.lst ((((W.tr.filter fun p => a9 f 1 p.2).take i).map fun p => (p.2.n : Int)).map V.int)))
   rfl (fun i H' _ e => ?_) (fun i x H' hi e => ?_) (fun H' e => ?_)
  ·subst e
   refine az.of ?_
   rw [ag nDa.symm]
   exact af
  ·subst e
   obtain ⟨p,hp,rfl⟩:=dk hi
   have hm : p ∈ W.tr:=(List.mem_filter.mp (List.mem_of_getElem? hp)).1
   obtain ⟨dp,hpp⟩:=R.b9 p hm
   have hp0 : upd (upd H a (.lst (refs (W.tr.filter fun p => a9 f 1 p.2)))) D (.lst ((((W.tr.filter fun p => a9 f 1 p.2).take i).map fun p => (p.2.n : Int)).map V.int)) p.1 = some (.ins A.aP dp (cx p.2)):=by
    rw [ag (bj hpp hD0),ag (bj hpp ha)]
    exact hpp
   refine ⟨rfl,?_⟩
   refine ⟨_,rfl,p.1,A.aP,dp,_,_,rfl,hp0,T.bM,T.nP,xj _,_,af,?_,?_⟩
   ·rw [List.length_map,List.length_map]
    have h1:=List.length_filter_le (fun p : Addr × Truth => a9 f 1 p.2) W.tr
    have h2 : ((W.tr.filter fun p => a9 f 1 p.2).take i).length ≤ i:=List.length_take_le _ _
    have h3 : i < (W.tr.filter fun p => a9 f 1 p.2).length:=(List.getElem?_eq_some_iff.mp hp).1
    omega
   ·rw [cZ,take_snoc hp,List.map_append,List.map_append]
    rfl
  ·have e' : H' = upd (upd H a (.lst (refs (W.tr.filter fun p => a9 f 1 p.2)))) D (.lst (((W.tr.filter fun p => a9 f 1 p.2).map fun p => (p.2.n : Int)).map V.int)):=by
    rw [e]
    unfold refs
    rw [List.length_map,List.take_length]
   subst e'
   refine ⟨D,(W.tr.filter fun p => a9 f 1 p.2).map fun p => (p.2.n : Int),rfl,az.of af,?_⟩
   have es : ((W.tr.filter fun p => a9 f 1 p.2).map fun p => (p.2.n : Int)).sum = ((Vbahap.heldOn W.st f : Nat) : Int):=by
    rw [held_eq,← sum_ints,List.map_map]
    rfl
   show Q (.int (((W.tr.filter fun p => a9 f 1 p.2).map fun p => (p.2.n : Int)).sum)) _
   rw [es]
   exact k _ (WR sa (aU hD))
def Vd (A : Ad) : Sp:=fun vs H Q _ => ∃ (W : Wd) (f : Nat),vs = [.ref W.aI,.int f] ∧ Rep A.toCs H W ∧ Q (.bl (dR W.st f)) H
theorem KR (T : Txt w.params K mg A) : aE P w K mg base aQ 1 A.gX A.rS ["self","f"] (Vd A):=by
 have nd:=Il.nd
 refine T.Fy.ok Il (fun vs H Q E h => ?_) (fun cdv AA outer s H vs Q E hr h => ?_)
 ·obtain ⟨W,f,rfl,R,k⟩:=h
  rfl
 ·obtain ⟨W,f,rfl,R,k⟩:=h
  have hu:=aZ hr
  refine ⟨_,(ah (aT (Kj (XN (Km hu (pv 1) (ai (pv 0) rfl))) (uT (Kf (ai (kD hu (ai (pv 0) rfl) (pv 1) (fun _ _ => rfl)) rfl)))))),?_⟩
  obtain ⟨dx,hI⟩:=R.inv
  refine ⟨_,rfl,_,rfl,W.aI,A.aG,dx,_,_,rfl,hI,T.bb,T.eC,fB _ _ _,W.aF,_,rfl,bL.k (k:=Sum.inl (f : Int)) R.bF,_,rfl,?_⟩
  rcases lu W.fl f with ⟨p,hp,hf,hv,hs⟩ | ⟨hv,hs⟩
  ·obtain ⟨dp,hpp⟩:=R.cE p hp
   rw [hv]
   refine bc ⟨_,rfl,W.aI,A.aG,dx,_,_,rfl,hI,T.bb,T.eC,fB _ _ _,_,rfl,W.aF,_,rfl,?_,p.1,A.bS,dp,_,_,rfl,hpp,T.fY,T.l7,xl _,_,rfl,?_⟩
   ·have:=bL.k (k:=Sum.inl (f : Int)) R.bF
    rw [hv] at this
    exact this
   ·have e : dR W.st f = !p.2.shut:=by
     unfold dR Vbahap.flightOf
     rw [show W.st.flights = W.fl.map (·.2) from rfl,hs]
    rw [← e]
    exact k
  ·rw [hv]
   refine a8 ?_
   have e : dR W.st f = false:=by
    unfold dR Vbahap.flightOf
    rw [show W.st.flights = W.fl.map (·.2) from rfl,hs]
   rw [← e]
   exact k
def Vg (A : Ad) : Sp:=fun vs H Q _ => ∃ (W : Wd) (f : Nat),vs = [.ref W.aI,.int f] ∧ Rep A.toCs H W ∧ W.tr.length ≤ sizeLine ∧ ∀ H',ao H H' → Q (.int (jB W.st f)) H'
theorem KS (T : Txt w.params K mg A) : aE P w K mg base aQ 3 A.g0 A.rW ["self","f"] (Vg A):=by
 have nd:=Ip.nd
 have oG:=vQ (P:=P) (w:=w) (base:=base) T
 have E7:=KR (P:=P) (w:=w) (base:=base) T
 refine T.FC.ok Ip (fun vs H Q E h => ?_) (fun cdv AA outer s H vs Q E hr h => ?_)
 ·obtain ⟨W,f,rfl,R,hl,k⟩:=h
  rfl
 ·obtain ⟨W,f,rfl,R,hl,k⟩:=h
  have nU : aq 2 _:=hr.mono (by decide)
  have AX : aq 1 _:=hr.mono (by decide)
  have hu:=aZ hr
  refine ⟨_,(au (bo (gp (de (bh (pv 0) T.bb T.w6 E7 AX T.Q8 .nil aB (aa (pv 1) ae)))) (ah (aT ay)) bH)
   (ah (aT (cW lb (ai (kD hu (ai (pv 0) rfl) (pv 1) (fun _ _ => rfl)) rfl) (bh (pv 0) T.bb T.qg oG nU T.Du .nil aB (aa (pv 1) ae)))))),?_⟩
  obtain ⟨dx,hI⟩:=R.inv
  refine ⟨_,rfl,W.aI,dx,_,rfl,hI,bR _ _ _ (by decide +kernel),_,rfl,W,f,rfl,R,_,rfl,?_⟩
  rcases lu W.fl f with ⟨p,hp,hf,hv,hs⟩ | ⟨hv,hs⟩
  ·obtain ⟨dp,hpp⟩:=R.cE p hp
   have fo : Vbahap.flightOf W.st f = some p.2:=hs
   have e : dR W.st f = !p.2.shut:=by unfold dR; rw [fo]
   rw [e]
   cases hsh : p.2.shut with
   | true =>
     have e2 : jB W.st f = 0:=by unfold jB; rw [fo]; simp [hsh]
     rw [e2] at k
     exact k _ (ao.refl _)
   | false =>
     have e2 : jB W.st f = (p.2.cap : Int) - (Vbahap.heldOn W.st f : Int):=by unfold jB; rw [fo]; simp [hsh]
     rw [e2] at k
     have g:=bL.k (k:=Sum.inl (f : Int)) R.bF
     rw [hv] at g
     refine ⟨_,rfl,W.aI,A.aG,dx,_,_,rfl,hI,T.bb,T.eC,fB _ _ _,_,rfl,W.aF,_,rfl,g,p.1,A.bS,dp,_,_,rfl,hpp,T.fY,T.l8,xm _,
      _,rfl,W.aI,dx,_,rfl,hI,bR _ _ _ (by decide +kernel),_,rfl,W,f,rfl,R,hl,fun H' s => ⟨_,_,rfl,rfl,k H' s⟩⟩
  ·have fo : Vbahap.flightOf W.st f = none:=hs
   have e : dR W.st f = false:=by unfold dR; rw [fo]
   rw [e]
   have e2 : jB W.st f = 0:=by unfold jB; rw [fo]
   rw [e2] at k
   exact k _ (ao.refl _)
def U9 (A : Ad) : Sp:=fun vs H Q _ => ∃ (W : Wd) (a : Addr) (t : Truth),vs = [.ref W.aI,.ref a] ∧ Rep A.toCs H W ∧ (a,t) ∈ W.tr ∧ W.ms.length < sizeLine ∧
 ∀ (H' : Hp) (p : Addr),Rep A.toCs H' (W.push p (Vbahap.stMsg t)) → aO H W H' (W.push p (Vbahap.stMsg t)) → Q .aC H'
theorem nE (T : Txt w.params K mg A) : aE P w K mg base aQ 2 A.gS A.rO ["self","sale"] (U9 A):=by
 have nd:=Ih.nd
 have kj:=ny (P:=P) (w:=w) (base:=base) T
 refine T.Fu.ok Ih (fun vs H Q E h => ?_) (fun cdv AA outer s H vs Q E hr h => ?_)
 ·obtain ⟨W,a,t,rfl,R,hm,hl,k⟩:=h
  rfl
 ·obtain ⟨W,a,t,rfl,R,hm,hl,k⟩:=h
  have jL : aq 1 _:=hr.mono (by decide)
  have hu:=aZ hr
  refine ⟨_,(ah (bB (bh (ai (pv 0) rfl) T.bW T.mm kj jL T.oo .nil aB (aa (dJ (aa (bg T.CW) (aa (ai (pv 1) rfl) (aa (ai (pv 1) rfl) (aa (ai (pv 1) rfl) (aa (ai (pv 1) rfl) ae)))))) ae)))),?_⟩
  obtain ⟨dx,hI⟩:=R.inv
  obtain ⟨dn,hN⟩:=R.net
  obtain ⟨da,ha⟩:=R.b9 _ hm
  refine ⟨_,rfl,W.aI,A.aG,dx,_,_,rfl,hI,T.bb,T.wc,abd _ _ _,W.aN,dn,_,rfl,hN,dY _ _ (by decide +kernel),
   _,rfl,a,A.aP,da,_,_,rfl,ha,T.bM,T.p9,Lr _,
   _,rfl,a,A.aP,da,_,_,rfl,ha,T.bM,T.qb,Ls _,
   _,rfl,a,A.aP,da,_,_,rfl,ha,T.bM,T.gx,ly _,
   _,rfl,a,A.aP,da,_,_,rfl,ha,T.bM,T.gy,lz _,
   (by show 5 ≤ sizeLine; decide),fun p hp => ?_⟩
  refine ⟨W,p,Vbahap.stMsg t,rfl,R.same (aU hp),af,hl,fun H' R' F' => ?_⟩
  exact k H' p R' ((aO.same (aU hp)).trans F')
def U8 (A : Ad) : Sp:=fun vs H Q _ => ∃ (W : Wd) (a : Addr) (t : Truth) (st : Nat),vs = [.ref W.aI,.ref a,.int st] ∧ Rep A.toCs H W ∧ (a,t) ∈ W.tr ∧ W.ms.length < sizeLine ∧
 ∀ (H' : Hp) (p : Addr),Rep A.toCs H' ((W.dc a (turned t st)).push p (Vbahap.stMsg (turned t st))) → aO H W H' ((W.dc a (turned t st)).push p (Vbahap.stMsg (turned t st))) → Q .aC H'
theorem pY (T : Txt w.params K mg A) : aE P w K mg base aQ 3 A.gR A.rN ["self","sale","stands"] (U8 A):=by
 have nd:=Ig.nd
 have km:=nE (P:=P) (w:=w) (base:=base) T
 refine T.Ft.ok Ig (fun vs H Q E h => ?_) (fun cdv AA outer s H vs Q E hr h => ?_)
 ·obtain ⟨W,a,t,st,rfl,R,hm,hl,k⟩:=h
  rfl
 ·obtain ⟨W,a,t,st,rfl,R,hm,hl,k⟩:=h
  have jN : aq 2 _:=hr.mono (by decide)
  have hu:=aZ hr
  refine ⟨_,(au (bQ (pv 1) (pv 2) rfl)
   (au (bQ (pv 1) (cW jD (ai (pv 1) rfl) ay) rfl)
   (ah (bB (bh (pv 0) T.bb T.mq km jN T.ot .nil aB (aa (pv 1) ae)))))),?_⟩
  obtain ⟨dx,hI⟩:=R.inv
  obtain ⟨da,ha⟩:=R.b9 _ hm
  refine ⟨_,rfl,_,rfl,a,A.aP,da,_,rfl,ha,T.bM,T.gy,(by show 7 < 1000; decide),?_⟩
  rw [Xs]
  refine ⟨_,rfl,a,A.aP,da,_,_,rfl,af,T.bM,T.gx,ly _,_,_,rfl,rfl,_,rfl,a,A.aP,da,_,rfl,af,T.bM,T.gx,(by show 7 < 1000; decide),?_⟩
  have ev : ((t.version : Nat) : Int) + 1 = ((t.version + 1 : Nat) : Int):=by omega
  dsimp only
  rw [ev,Xr,cZ]
  obtain ⟨R1,F1⟩:=R.dc (u:=turned t st) hm rfl ha
  have hI1 : upd H a (.ins A.aP da (cx (turned t st))) W.aI = some (.ins A.aG dx (gB W.aN W.aF W.aK)):=bq hI ha (by show (["net","flights","kept"] : List Str) ≠ (["r","no","f","seats","stands","version","known"] : List Str); decide +kernel)
  refine ⟨_,rfl,W.aI,dx,_,rfl,hI1,bR _ _ _ (by decide +kernel),_,rfl,W.dc a (turned t st),a,turned t st,rfl,R1,?_,hl,fun H' p R2 F2 => k H' p R2 (F1.trans F2)⟩
  exact List.mem_map.mpr ⟨_,hm,if_pos rfl⟩
end
end Sh
end
section
namespace Sh
open PySem PySem.Spec PyProof.Rows L2
open Vbahap (State Truth View Flight Msg)
structure aA (A : Cs) (H : Hp) (W : Wd) (H' : Hp) (W' : Wd) : Prop where
 rep : Rep A H' W'
 fr : aO H W H' W'
 cnt : W'.bU - (W'.ms.length : Int) = W.bU - (W.ms.length : Int)
theorem aA.refl {A : Cs} {H : Hp} {W : Wd} (R : Rep A H W) : aA A H W H W:=⟨R,aO.refl H W,rfl⟩
theorem aA.trans {A : Cs} {H H1 H2 : Hp} {W W1 W2 : Wd} (a : aA A H W H1 W1) (b : aA A H1 W1 H2 W2) : aA A H W H2 W2:=⟨b.rep,a.fr.trans b.fr,b.cnt.trans a.cnt⟩
theorem aA.same {A : Cs} {H H1 H2 : Hp} {W W1 : Wd} (a : aA A H W H1 W1) (s : ao H1 H2) : aA A H W H2 W1:=⟨a.rep.same s,a.fr.trans (aO.same s),a.cnt⟩
theorem gn (W : Wd) (p : Addr) (m : Msg) : (W.push p m).bU - ((W.push p m).ms.length : Int) = W.bU - (W.ms.length : Int):=by
 show W.bU + 1 - (((W.ms ++ [(p,m)]).length : Nat) : Int) = _
 rw [List.length_append,List.length_singleton]
 omega
theorem Rep.Nr {A : Cs} {H : Hp} {W : Wd} (R : Rep A H W) {b : Addr} (f : W.foot b) : ∃ o,H b = some o:=by
 rcases f with q | q | q | q | q | q | q | q
 ·obtain ⟨dx,e⟩:=R.net
  rw [q]; exact ⟨_,e⟩
 ·rw [q]; exact ⟨_,R.msg⟩
 ·rw [q]; exact ⟨_,R.bF⟩
 ·rw [q]; exact ⟨_,R.bJ⟩
 ·rw [q]; exact ⟨_,R.bD⟩
 ·obtain ⟨p,hp,rfl⟩:=List.mem_map.mp q
  obtain ⟨dx,e⟩:=R.cE p hp
  exact ⟨_,e⟩
 ·obtain ⟨p,hp,rfl⟩:=List.mem_map.mp q
  obtain ⟨dx,e⟩:=R.b9 p hp
  exact ⟨_,e⟩
 ·obtain ⟨p,hp,rfl⟩:=List.mem_map.mp q
  obtain ⟨dx,e⟩:=R.cv p hp
  exact ⟨_,e⟩
theorem Rep.kN {A : Cs} {H : Hp} {W : Wd} (R : Rep A H W) {b : Addr} (h : H b = none) : ¬ W.foot b:=fun f => by
 obtain ⟨o,e⟩:=R.Nr f
 rw [h] at e
 cases e
theorem abi (W : Wd) : W.st.truths.length = W.tr.length:=by
 unfold Wd.st
 rw [List.length_map]
theorem kI (W : Wd) : W.st.net.length = W.ms.length:=by
 unfold Wd.st
 rw [List.length_map]
theorem abh (W : Wd) : W.st.views.length = W.vw.length:=by
 unfold Wd.st
 rw [List.length_map]
theorem abj (W : Wd) : W.st.flights.length = W.fl.length:=by
 unfold Wd.st
 rw [List.length_map]
theorem fg {W : Wd} (g : Good W.st) : W.tr.length ≤ 40:=by
 have:=mI g
 rw [abi] at this
 exact this
theorem lA {n : Nat} (h : n ≤ 40) : n ≤ sizeLine:=by
 rw [sizeLine_eq]
 omega
theorem gC {W : Wd} {p : Addr × Truth} (h : p ∈ W.tr) : p.2 ∈ W.st.truths:=List.mem_map.mpr ⟨p,h,rfl⟩
section
variable {P : Program} {w : World} {K : PySem.W.Frag} {mg : Str → Option Value} {base : Heap} {A : Ad}
theorem oR {A : Cs} {H H' : Hp} {W : Wd} {a q : Addr} {t : Truth} {st : Nat} (g : (W.st.truths.map bC).Nodup) (tn : (W.tr.map (·.1)).Nodup) (hm : (a,t) ∈ W.tr) (R' : Rep A H' ((W.dc a (turned t st)).push q (Vbahap.stMsg (turned t st)))) (F' : aO H W H' ((W.dc a (turned t st)).push q (Vbahap.stMsg (turned t st)))) :
 aA A H W H' ((W.dc a (turned t st)).push q (Vbahap.stMsg (turned t st))) ∧ ((W.dc a (turned t st)).push q (Vbahap.stMsg (turned t st))).st = Vbahap.turn W.st t st:=by
 refine ⟨⟨R',F',gn _ _ _⟩,?_⟩
 rw [Wd.fq,G6 tn g hm (u:=turned t st) rfl]
 rfl
theorem t7 {W : Wd} {a q : Addr} {t : Truth} {st : Nat} {m : Msg} {p : Addr × Truth} (hp : p ∈ W.tr) (hn : p.1 ≠ a) : p ∈ ((W.dc a (turned t st)).push q m).tr:=List.mem_map.mpr ⟨p,hp,if_neg hn⟩
def Vo (A : Ad) : Sp:=fun vs H Q _ => ∃ (W : Wd) (f : Nat),vs = [.ref W.aI,.int f] ∧ Rep A.toCs H W ∧ Good W.st ∧ W.ms.length + 100 < sizeLine ∧
 ∀ (H' : Hp) (W' : Wd),aA A.toCs H W H' W' → W'.st = Vbahap.clearFlight W.st f → W'.ms.length ≤ W.ms.length + W.tr.length → Q .aC H'
theorem KW (T : Txt w.params K mg A) : aE P w K mg base aQ 4 A.hX A.r9 ["self","f"] (Vo A):=by
 have nd:=IA.nd
 have E8:=KS (P:=P) (w:=w) (base:=base) T
 have ko:=nF (P:=P) (w:=w) (base:=base) T
 have lN:=pY (P:=P) (w:=w) (base:=base) T
 refine T.FK.ok IA (fun vs H Q E h => ?_) (fun cdv AA outer s H vs Q E hr h => ?_)
 ·obtain ⟨W,f,rfl,R,g,hl,k⟩:=h
  rfl
 ·obtain ⟨W,f,rfl,R,g,hl,k⟩:=h
  have AY : aq 3 _:=hr.mono (by decide)
  have jO : aq 1 _:=hr.mono (by decide)
  have lC : aq 3 _:=hr.mono (by decide)
  have hu:=aZ hr
  refine ⟨_,(ah (dz PassesOwn.never rfl (fu (bh (pv 0) T.bb T.mr ko jO T.ou .nil aB (aa (pv 1) (aa (bg T.oa) ae)))) (ck (i:=2) nd rfl (Or.inl rfl))
   (ah (bo (bz pU (ai (pv 2) rfl) (bh (pv 0) T.bb T.w8 E8 AY T.Q9 .nil aB (aa (pv 1) ae)) (bp _)) (ah (bB (bh (pv 0) T.bb T.nR lN lC T.sF .nil aB (aa (pv 2) (aa (bg T.og) ae))))) bH)))),?_⟩
  obtain ⟨dx,hI⟩:=R.inv
  have hT:=fg g
  refine ⟨_,rfl,W.aI,dx,_,rfl,hI,bR _ _ _ (by decide +kernel),_,rfl,W,f,2,rfl,R,lA hT,fun D hD => ?_⟩
  have R1:=R.same (aU (o:=.lst (refs (W.tr.filter fun p => a9 f 2 p.2))) hD)
  have F1 : aO H W (upd H D (.lst (refs (W.tr.filter fun p => a9 f 2 p.2)))) W:=aO.same (aU hD)
  have hD1 : upd H D (.lst (refs (W.tr.filter fun p => a9 f 2 p.2))) D = some (.lst (refs (W.tr.filter fun p => a9 f 2 p.2))):=af
  have oD : ¬ W.foot D:=R.kN hD
  generalize upd H D (.lst (refs (W.tr.filter fun p => a9 f 2 p.2))) = H1 at R1 F1 hD1 ⊢
  have ew : (W.tr.filter fun p => a9 f 2 p.2).map (·.2) = Vbahap.waitingOn W.st f:=(tY W f).symm
  have so : ∀ p ∈ W.tr.filter (fun p => a9 f 2 p.2),p ∈ W.tr ∧ p.2.f = f ∧ p.2.status = 2:=fun p hp => by
   have:=(List.mem_filter.mp hp).2
   unfold a9 at this
   exact ⟨(List.mem_filter.mp hp).1,by simpa using this⟩
  have hL : (W.tr.filter fun p => a9 f 2 p.2).length ≤ W.tr.length:=List.length_filter_le _ _
  have hLn : ((W.tr.filter fun p => a9 f 2 p.2).map (·.1)).Nodup:=List.Sublist.nodup (List.Sublist.map _ List.filter_sublist) R.cT
  generalize W.tr.filter (fun p => a9 f 2 p.2) = L at hD1 ew so hL hLn ⊢
  refine ⟨D,rfl,⟨_,az.of hD1⟩,jQ (K:=K) (a:=D) (xs:=refs L) (fun i σ H' => ∃ (v : Option V) (W' : Wd),σ = [some (.ref W.aI),some (.int f),v] ∧ aA A.toCs H1 W H' W' ∧ Good W'.st ∧
   Vbahap.clearAll W'.st ((L.drop i).map (·.2)) = Vbahap.clearFlight W.st f ∧ (∀ p ∈ L.drop i,p ∈ W'.tr) ∧ W'.ms.length ≤ W.ms.length + i) ?_ ?_ ?_ ?_⟩
  ·refine ⟨none,W,rfl,aA.refl R1,g,?_,fun p hp => (so p hp).1,Nat.le_refl _⟩
   rw [List.drop_zero,ew]
   rfl
  ·rintro i σ H' _ ⟨v,W',_,po,_⟩
   exact az.of (po.fr.keep D _ hD1 oD)
  ·rintro i x σ H' hi ⟨v,W',rfl,po,g',ec,hin,hms⟩
   obtain ⟨p,hp,rfl⟩:=dk hi
   have hlt:=(List.getElem?_eq_some_iff.mp hp).1
   have ed : L.drop i = p :: L.drop (i + 1):=by
    rw [List.drop_eq_getElem_cons hlt,(List.getElem?_eq_some_iff.mp hp).2]
   have hpi : p ∈ L:=List.mem_of_getElem? hp
   have hpW : p ∈ W'.tr:=hin p (by rw [ed]; exact List.mem_cons_self)
   have rest : ∀ q ∈ L.drop (i + 1),q ∈ W'.tr:=fun q hq => hin q (by rw [ed]; exact List.mem_cons_of_mem _ hq)
   have apart : ∀ q ∈ L.drop (i + 1),q.1 ≠ p.1:=fun q hq e => by
    have nd2 : ((L.drop i).map (·.1)).Nodup:=List.Sublist.nodup (List.Sublist.map _ (List.drop_sublist _ _)) hLn
    rw [ed,List.map_cons,List.nodup_cons] at nd2
    exact nd2.1 (List.mem_map.mpr ⟨q,hq,e⟩)
   obtain ⟨dp,hpp⟩:=po.rep.b9 p hpW
   obtain ⟨dx',hI'⟩:=po.rep.inv
   rw [po.fr.adr.aI] at hI'
   have n1 : 1 ≤ p.2.n:=(g'.to p.2 (gC hpW)).n (by rw [(so p hpi).2.2]; exact Nat.le_refl _)
   rw [ed,List.map_cons] at ec
   have ec' : (if p.2.n ≤ Vbahap.roomOn W'.st p.2.f then Vbahap.clearAll (Vbahap.turn W'.st p.2 1) ((L.drop (i + 1)).map (·.2)) else Vbahap.clearAll W'.st ((L.drop (i + 1)).map (·.2))) = Vbahap.clearFlight W.st f:=ec
   refine ⟨_,rfl,p.1,A.aP,dp,_,_,rfl,hpp,T.bM,T.nP,xj _,_,rfl,W.aI,dx',_,rfl,hI',bR _ _ _ (by decide +kernel),_,rfl,W',f,?_,po.rep,lA (fg g'),fun H2 s2 => ?_⟩
   ·rw [po.fr.adr.aI] <;> rfl
   ·refine ⟨_,_,rfl,rfl,_,rfl,c7 (fun c => ?_) (fun c => ?_)⟩
    ·have c1 : p.2.n ≤ Vbahap.roomOn W'.st p.2.f:=by
      rw [(so p hpi).2.1]
      exact (o7 n1).mp (of_decide_eq_true c)
     rw [if_pos c1] at ec'
     have po2:=po.same s2
     obtain ⟨dx2,hI2⟩:=po2.rep.inv
     rw [po.fr.adr.aI] at hI2
     refine ⟨_,rfl,W.aI,dx2,_,rfl,hI2,bR _ _ _ (by decide +kernel),_,rfl,W',p.1,p.2,1,?_,po2.rep,hpW,by omega,fun H3 q R3 F3 => ?_⟩
     ·rw [po.fr.adr.aI] <;> rfl
     ·obtain ⟨po3,es⟩:=oR g'.tk po.rep.cT hpW R3 F3
      refine ⟨_,_,rfl,po2.trans po3,?_,?_,fun q hq => t7 (rest q hq) (apart q hq),?_⟩
      ·rw [es]
       exact kL g' (gC hpW) (by decide) (by rw [(so p hpi).2.2]; decide)
      ·rw [es]
       exact ec'
      ·show (W'.ms ++ [_]).length ≤ _
       rw [List.length_append,List.length_singleton]
       omega
    ·have c1 : ¬ p.2.n ≤ Vbahap.roomOn W'.st p.2.f:=by
      rw [(so p hpi).2.1]
      exact fun h => c (decide_eq_true ((o7 n1).mpr h))
     rw [if_neg c1] at ec'
     exact ⟨_,W',rfl,po.same s2,g',ec',rest,by omega⟩
  ·rintro σ H' ⟨v,W',rfl,po,g',ec,_,hms⟩
   have e1 : L.drop (refs L).length = []:=by
    unfold refs
    rw [List.length_map,List.drop_length]
   have e2 : (refs L).length = L.length:=by unfold refs; rw [List.length_map]
   rw [e1] at ec
   exact k H' W' ⟨po.rep,F1.trans po.fr,po.cnt⟩ ec (by omega)
end
end Sh
end
section
namespace Sh
open PySem PySem.Spec PyProof.Rows L2
open Vbahap (State Truth View Flight Msg)
section
variable {P : Program} {w : World} {K : PySem.W.Frag} {mg : Str → Option Value} {base : Heap} {A : Ad}
def U7 (A : Ad) : Sp:=fun vs H Q _ => ∃ (p dx : Addr) (t : Truth),vs = [.ref p,.int t.r,.int t.no,.int t.f,.int t.n,.int t.status] ∧ t.version = 1 ∧ t.acked = 0 ∧ H p = some (.ins A.aP dx []) ∧
 ∀ H' : Hp,cq H' p A.aP (cx t) → (∀ b o,H b = some o → b ≠ p → H' b = some o) → Q .aC H'
theorem Yf (T : Txt w.params K mg A) : aE P w K mg base aQ 1 A.gQ A.rM ["self","r","no","f","seats","stands"] (U7 A):=by
 have nd:=Ie.nd
 refine T.Fs.ok Ie (fun vs H Q E h => ?_) (fun cdv AA outer s H vs Q E hr h => ?_)
 ·obtain ⟨p,dx,t,rfl,hv,hk,hp,k⟩:=h
  rfl
 ·obtain ⟨p,dx,t,rfl,hv,hk,hp,k⟩:=h
  have hu:=aZ hr
  refine ⟨_,(au (bQ (pv 0) (pv 1) rfl)
   (au (bQ (pv 0) (pv 2) rfl)
   (au (bQ (pv 0) (pv 3) rfl)
   (au (bQ (pv 0) (pv 4) rfl)
   (au (bQ (pv 0) (pv 5) rfl)
   (au (bQ (pv 0) ay rfl)
   (ah (bQ (pv 0) ay rfl)))))))),?_⟩
  refine ⟨_,rfl,_,rfl,p,A.aP,dx,_,rfl,hp,T.bM,T.p9,Nat.zero_lt_succ _,?_⟩
  rw [cn]
  refine ⟨_,rfl,_,rfl,p,A.aP,dx,_,rfl,af,T.bM,T.qb,lt1000 (by simp only [List.length_cons,List.length_nil]; decide),?_⟩
  rw [cZ,aL (by decide +kernel) cn]
  refine ⟨_,rfl,_,rfl,p,A.aP,dx,_,rfl,af,T.bM,T.nQ,lt1000 (by simp only [List.length_cons,List.length_nil]; decide),?_⟩
  rw [cZ,aL (by decide +kernel) (aL (by decide +kernel) cn)]
  refine ⟨_,rfl,_,rfl,p,A.aP,dx,_,rfl,af,T.bM,T.nP,lt1000 (by simp only [List.length_cons,List.length_nil]; decide),?_⟩
  rw [cZ,aL (by decide +kernel) (aL (by decide +kernel) (aL (by decide +kernel) cn))]
  refine ⟨_,rfl,_,rfl,p,A.aP,dx,_,rfl,af,T.bM,T.gy,lt1000 (by simp only [List.length_cons,List.length_nil]; decide),?_⟩
  rw [cZ,aL (by decide +kernel) (aL (by decide +kernel) (aL (by decide +kernel) (aL (by decide +kernel) cn)))]
  refine ⟨_,rfl,p,A.aP,dx,_,rfl,af,T.bM,T.gx,lt1000 (by simp only [List.length_cons,List.length_nil]; decide),?_⟩
  rw [cZ,aL (by decide +kernel) (aL (by decide +kernel) (aL (by decide +kernel) (aL (by decide +kernel) (aL (by decide +kernel) cn))))]
  refine ⟨_,rfl,p,A.aP,dx,_,rfl,af,T.bM,T.lp,lt1000 (by simp only [List.length_cons,List.length_nil]; decide),?_⟩
  rw [cZ,aL (by decide +kernel) (aL (by decide +kernel) (aL (by decide +kernel) (aL (by decide +kernel) (aL (by decide +kernel) (aL (by decide +kernel) cn)))))]
  refine k _ ⟨dx,?_⟩ fun b o e hb => ?_
  ·rw [af]
   unfold cx
   rw [hv,hk]
   rfl
  ·rw [ag hb]
   exact e
def Vh (A : Ad) : Sp:=fun vs H Q _ => ∃ (W : Wd) (r no f n st : Nat),vs = [.ref W.aI,.int r,.int no,.int f,.int n,.int st] ∧ Rep A.toCs H W ∧ Vbahap.truthOf W.st r no = none ∧ W.tr.length < sizeLine ∧ W.ms.length < sizeLine ∧
 ∀ (H' : Hp) (W' : Wd),aA A.toCs H W H' W' → W'.st = Vbahap.newTruth W.st r no f n st → W'.ms.length = W.ms.length + 1 → Q .aC H'
theorem KU (T : Txt w.params K mg A) : aE P w K mg base aQ 3 A.g6 A.rX ["self","r","no","f","seats","stands"] (Vh A):=by
 have nd:=Iq.nd
 have km:=nE (P:=P) (w:=w) (base:=base) T
 have afh:=Yf (P:=P) (w:=w) (base:=base) T
 refine T.FD.ok Iq (fun vs H Q E h => ?_) (fun cdv AA outer s H vs Q E hr h => ?_)
 ·obtain ⟨W,r,no,f,n,st,rfl,R,hn,hl,hm,k⟩:=h
  rfl
 ·obtain ⟨W,r,no,f,n,st,rfl,R,hn,hl,hm,k⟩:=h
  have jN : aq 2 _:=hr.mono (by decide)
  have ab3 : aq 2 _:=hr.mono (by decide)
  have hu:=aZ hr
  refine ⟨_,(au (bI (i:=6) nd rfl (Or.inl rfl) (m8 T.mh afh ab3 rfl T.Nk T.aev .nil aB (aa (pv 1) (aa (pv 2) (aa (pv 3) (aa (pv 4) (aa (pv 5) ae)))))))
   (au (uB hu (ai (pv 0) rfl) (dJ (aa (pv 1) (aa (pv 2) ae))) (pv 6) rfl)
   (ah (bB (bh (pv 0) T.bb T.mq km jN T.ot .nil aB (aa (pv 6) ae)))))),?_⟩
  have hv : bX (bY W.tr) (bE r no) = none:=by
   rcases mw W.tr r no with ⟨p,_,_,_,_,e⟩ | ⟨e,_⟩
   ·have hn' : (W.tr.map (·.2)).find? (fun t => t.r == r && t.no == no) = none:=hn
    rw [hn'] at e
    cases e
   ·exact e
  let t : Truth:={ r:=r,no:=no,f:=f,n:=n,status:=st,version:=1,acked:=0,seq:=W.seq + 1 }
  refine ⟨_,rfl,_,rfl,_,rfl,_,rfl,_,rfl,fun x dx nx ndx nex => ?_⟩
  refine ⟨x,dx,t,rfl,rfl,rfl,af,fun H1 h1 k1 => ⟨rfl,?_⟩⟩
  have s1 : ao H H1:=ao.made nx ndx k1
  have R1:=R.same s1
  obtain ⟨di,hI⟩:=R1.inv
  refine ⟨_,rfl,_,rfl,W.aI,A.aG,di,_,_,rfl,hI,T.bb,T.fA,jF _ _ _,_,rfl,_,rfl,(by show 2 ≤ sizeLine; decide),fun q hq => ?_⟩
  have s2 : ao H1 (upd H1 q (.tup [.int r,.int no])):=aU hq
  have R2:=R1.same s2
  refine ⟨W.aK,_,rfl,kq.t (k:=bE r no) R2.bJ af (by unfold bY; rw [List.length_map]; exact hl),?_⟩
  rw [uz _ hv]
  have h2 : cq (upd H1 q (.tup [.int r,.int no])) x A.aP (cx t):=by
   obtain ⟨d,h⟩:=h1
   exact ⟨d,s2 _ _ h⟩
  have R3:=R2.ke (u:=t) (fun p hp e => by
   obtain ⟨d,h⟩:=R.b9 p hp
   rw [e,nx] at h
   cases h) h2
  have F3 : aO H W _ (W.ke x t):=aO.ke (u:=t) (o:=.dT (bY W.tr ++ [(bE t.r t.no,V.ref x)])) ((aO.same s1).trans (aO.same s2)) nx
  obtain ⟨d3,hI3⟩:=R3.inv
  refine ⟨_,rfl,W.aI,d3,_,rfl,hI3,bR _ _ _ (by decide +kernel),_,rfl,W.ke x t,x,t,rfl,R3,List.mem_append_right _ List.mem_cons_self,hm,fun H4 p R4 F4 => ?_⟩
  refine k H4 _ ⟨R4,F3.trans F4,gn _ _ _⟩ ?_ ?_
  ·rw [Wd.fq,Wd.aeU]
   rfl
  ·show (W.ms ++ [_]).length = _
   rw [List.length_append,List.length_singleton]
end
end Sh
end
section
namespace L2
open PySem PySem.Spec PyProof.Rows
theorem acX {K : PySem.W.Frag} {a : Addr} {xs : List V} {g : TG} {tb : TS} {D : Ends} {σ : St} {H : Hp} (Pv : Nat → St → Hp → Prop) (h0 : Pv 0 σ H) (hl : ∀ i σ H,Pv i σ H → az K H a xs)
 (hs : ∀ i x σ H,xs.reverse[i]? = some x → Pv i σ H → g x σ H fun σ2 H2 => tb { D with nx:=Pv (i + 1),ct:=Pv (i + 1),bk:=D.nx } σ2 H2) (hd : ∀ σ H,Pv xs.length σ H → D.nx σ H) :
 ∃ W : Nat → Nat → St → Hp → Prop,(∃ m,W 0 m σ H) ∧ ∀ i m σ H,W i m σ H →
  ((oA K a xs.length).stop i H ∧ D.nx σ H) ∨ ((oA K a xs.length).go i H ∧ ∃ N : St → Hp → Prop,(∀ σ' H',N σ' H' → ∃ m',m' < m ∧ W (i + 1) m' σ' H') ∧ ∀ x H',(oA K a xs.length).e9 i H x H' → g x σ H' fun σ2 H2 => tb { D with nx:=N,ct:=N,bk:=D.nx } σ2 H2):=by
 refine ⟨fun i m σ H => m = xs.length - i ∧ i ≤ xs.length ∧ Pv i σ H,⟨xs.length,by simp,Nat.zero_le _,h0⟩,?_⟩
 rintro i m σ H ⟨rfl,hi,p⟩
 have q:=hl i σ H p
 by_cases hlt : i < xs.length
 ·refine .inr ⟨⟨hlt,xs,xs[xs.length - 1 - i]'(by omega),q,List.getElem?_eq_getElem _⟩,Pv (i + 1),fun σ' H' p' => ⟨xs.length - (i + 1),by omega,rfl,hlt,p'⟩,fun x H' y => ?_⟩
  obtain ⟨e,y⟩:=y
  subst e
  exact hs i x σ _ (by rw [List.getElem?_reverse hlt]; exact y xs q) p
 ·have e : i = xs.length:=by omega
  subst e
  exact .inl ⟨Nat.le_refl _,hd σ H p⟩
end L2
namespace Sh
open PySem PySem.Spec PyProof.Rows L2
open Vbahap (State Truth View Flight Msg)
theorem SI {s : State} {f cap : Nat} (h : Vbahap.heldOn s f ≤ cap) : ∀ l,Vbahap.withdraw s f cap l = s
 | [] => rfl
 | t :: r => by
   show (if Vbahap.heldOn s f ≤ cap then s else _) = s
   rw [if_pos h]
theorem Bf {W : Wd} {f : Nat} {x : Flight} (h : Vbahap.flightOf W.st f = some x) : ∃ a,(a,x) ∈ W.fl ∧ x.f = f ∧ bX (d8 W.fl) (Sum.inl (f : Int)) = some (.ref a):=by
 rcases lu W.fl f with ⟨p,hp,hf,hv,hs⟩ | ⟨hv,hs⟩
 ·have e : some p.2 = some x:=hs.symm.trans h
  cases e
  exact ⟨p.1,hp,hf,hv⟩
 ·have e : none = some x:=hs.symm.trans h
  cases e
theorem Tb (s : State) (t : Truth) (k f : Nat) : Vbahap.flightOf (Vbahap.turn s t k) f = Vbahap.flightOf s f:=rfl
section
variable {P : Program} {w : World} {K : PySem.W.Frag} {mg : Str → Option Value} {base : Heap} {A : Ad}
def Va (A : Ad) : Sp:=fun vs H Q _ => ∃ (W : Wd) (f : Nat) (x : Flight),vs = [.ref W.aI,.int f] ∧ Rep A.toCs H W ∧ Good W.st ∧ Vbahap.flightOf W.st f = some x ∧ W.ms.length + 100 < sizeLine ∧
 ∀ (H' : Hp) (W' : Wd),aA A.toCs H W H' W' → W'.st = Vbahap.withdraw W.st f x.cap ((W.st.truths.filter fun t => t.f == f && t.status == 1).reverse) → W'.ms.length ≤ W.ms.length + W.tr.length → Q .aC H'
theorem Yg (T : Txt w.params K mg A) : aE P w K mg base aQ 4 A.gT A.rP ["self","f"] (Va A):=by
 have nd:=Ii.nd
 have oG:=vQ (P:=P) (w:=w) (base:=base) T
 have ko:=nF (P:=P) (w:=w) (base:=base) T
 have lN:=pY (P:=P) (w:=w) (base:=base) T
 refine T.Fv.ok Ii (fun vs H Q E h => ?_) (fun cdv AA outer s H vs Q E hr h => ?_)
 ·obtain ⟨W,f,x,rfl,R,g,hx,hl,k⟩:=h
  rfl
 ·obtain ⟨W,f,x,rfl,R,g,hx,hl,k⟩:=h
  have nU : aq 2 _:=hr.mono (by decide)
  have jO : aq 1 _:=hr.mono (by decide)
  have lC : aq 3 _:=hr.mono (by decide)
  have hu:=aZ hr
  refine ⟨_,(ah (dz PassesOwn.never rfl (XB rfl T.K3 (aa (bh (pv 0) T.bb T.mr ko jO T.ou .nil aB (aa (pv 1) (aa (bg T.og) ae))) ae)) (ck (i:=2) nd rfl (Or.inl rfl))
   (ah (bo (bz nu (bh (pv 0) T.bb T.qg oG nU T.Du .nil aB (aa (pv 1) ae)) (ai (kD hu (ai (pv 0) rfl) (pv 1) (fun _ _ => rfl)) rfl) (bp _)) (ah (bB (bh (pv 0) T.bb T.nR lN lC T.sF .nil aB (aa (pv 2) (aa (bg T.su) ae))))) bH)))),?_⟩
  obtain ⟨dx,hI⟩:=R.inv
  have hT:=fg g
  refine ⟨_,rfl,W.aI,dx,_,rfl,hI,bR _ _ _ (by decide +kernel),_,rfl,W,f,1,rfl,R,lA hT,fun D hD => ?_⟩
  have R1:=R.same (aU (o:=.lst (refs (W.tr.filter fun p => a9 f 1 p.2))) hD)
  have F1 : aO H W (upd H D (.lst (refs (W.tr.filter fun p => a9 f 1 p.2)))) W:=aO.same (aU hD)
  have hD1 : upd H D (.lst (refs (W.tr.filter fun p => a9 f 1 p.2))) D = some (.lst (refs (W.tr.filter fun p => a9 f 1 p.2))):=af
  have oD : ¬ W.foot D:=R.kN hD
  generalize upd H D (.lst (refs (W.tr.filter fun p => a9 f 1 p.2))) = H1 at R1 F1 hD1 ⊢
  have ew : (W.tr.filter fun p => a9 f 1 p.2).map (·.2) = W.st.truths.filter fun t => t.f == f && t.status == 1:=by
   unfold Wd.st
   simp only [List.filter_map]
   rfl
  have so : ∀ p ∈ W.tr.filter (fun p => a9 f 1 p.2),p ∈ W.tr ∧ p.2.f = f ∧ p.2.status = 1:=fun p hp => by
   have:=(List.mem_filter.mp hp).2
   unfold a9 at this
   exact ⟨(List.mem_filter.mp hp).1,by simpa using this⟩
  have hL : (W.tr.filter fun p => a9 f 1 p.2).length ≤ W.tr.length:=List.length_filter_le _ _
  have hLn : ((W.tr.filter fun p => a9 f 1 p.2).map (·.1)).Nodup:=List.Sublist.nodup (List.Sublist.map _ List.filter_sublist) R.cT
  generalize W.tr.filter (fun p => a9 f 1 p.2) = L at hD1 ew so hL hLn ⊢
  have eR : (refs L).reverse = refs L.reverse:=by unfold refs; rw [List.map_reverse]
  refine ⟨D,_,rfl,az.of hD1,acX (K:=K) (a:=D) (xs:=refs L) (fun i σ H' => ∃ (v : Option V) (W' : Wd),σ = [some (.ref W.aI),some (.int f),v] ∧ aA A.toCs H1 W H' W' ∧ Good W'.st ∧ Vbahap.flightOf W'.st f = some x ∧
   Vbahap.withdraw W'.st f x.cap ((L.reverse.drop i).map (·.2)) = Vbahap.withdraw W.st f x.cap ((W.st.truths.filter fun t => t.f == f && t.status == 1).reverse) ∧ (∀ p ∈ L.reverse.drop i,p ∈ W'.tr) ∧ W'.ms.length ≤ W.ms.length + i ∧ i ≤ L.length) ?_ ?_ ?_ ?_⟩
  ·refine ⟨none,W,rfl,aA.refl R1,g,hx,?_,fun p hp => (so p (List.mem_reverse.mp hp)).1,Nat.le_refl _,Nat.zero_le _⟩
   rw [List.drop_zero,← ew,List.map_reverse]
  ·rintro i σ H' ⟨v,W',_,po,_⟩
   exact az.of (po.fr.keep D _ hD1 oD)
  ·rintro i y σ H' hi ⟨v,W',rfl,po,g',hx',ec,hin,hms,hiL⟩
   rw [eR] at hi
   obtain ⟨p,hp,rfl⟩:=dk hi
   have hlt:=(List.getElem?_eq_some_iff.mp hp).1
   have hlt' : i < L.length:=by rw [List.length_reverse] at hlt; exact hlt
   have ed : L.reverse.drop i = p :: L.reverse.drop (i + 1):=by
    rw [List.drop_eq_getElem_cons hlt,(List.getElem?_eq_some_iff.mp hp).2]
   have hpi : p ∈ L:=List.mem_reverse.mp (List.mem_of_getElem? hp)
   have hpW : p ∈ W'.tr:=hin p (by rw [ed]; exact List.mem_cons_self)
   have rest : ∀ q ∈ L.reverse.drop (i + 1),q ∈ W'.tr:=fun q hq => hin q (by rw [ed]; exact List.mem_cons_of_mem _ hq)
   have apart : ∀ q ∈ L.reverse.drop (i + 1),q.1 ≠ p.1:=fun q hq e => by
    have nd1 : (L.reverse.map (·.1)).Nodup:=by rw [List.map_reverse]; exact vU hLn
    have nd2 : ((L.reverse.drop i).map (·.1)).Nodup:=List.Sublist.nodup (List.Sublist.map _ (List.drop_sublist _ _)) nd1
    rw [ed,List.map_cons,List.nodup_cons] at nd2
    exact nd2.1 (List.mem_map.mpr ⟨q,hq,e⟩)
   obtain ⟨dx',hI'⟩:=po.rep.inv
   rw [po.fr.adr.aI] at hI'
   rw [ed,List.map_cons] at ec
   have ec' : (if Vbahap.heldOn W'.st f ≤ x.cap then W'.st else Vbahap.withdraw (Vbahap.turn W'.st p.2 5) f x.cap ((L.reverse.drop (i + 1)).map (·.2))) = Vbahap.withdraw W.st f x.cap ((W.st.truths.filter fun t => t.f == f && t.status == 1).reverse):=ec
   refine ⟨_,rfl,W.aI,dx',_,rfl,hI',bR _ _ _ (by decide +kernel),_,rfl,W',f,?_,po.rep,lA (fg g'),fun H2 s2 => ?_⟩
   ·rw [po.fr.adr.aI] <;> rfl
   ·have po2:=po.same s2
    obtain ⟨dx2,hI2⟩:=po2.rep.inv
    rw [po.fr.adr.aI] at hI2
    obtain ⟨fa,hfa,hff,hfv⟩:=Bf hx'
    obtain ⟨df,hfp⟩:=po2.rep.cE _ hfa
    have gf:=bL.k (k:=Sum.inl (f : Int)) po2.rep.bF
    rw [hfv] at gf
    refine ⟨_,rfl,W.aI,A.aG,dx2,_,_,rfl,hI2,T.bb,T.eC,fB _ _ _,_,rfl,_,_,rfl,gf,fa,A.bS,df,_,_,rfl,hfp,T.fY,T.l8,xm _,_,_,rfl,rfl,_,rfl,c7 (fun c => ?_) (fun c => ?_)⟩
    ·have c1 : ¬ Vbahap.heldOn W'.st f ≤ x.cap:=by
      have c0 : decide ((x.cap : Int) < ((Vbahap.heldOn W'.st f : Nat) : Int)) = true:=c
      have:=of_decide_eq_true c0
      omega
     rw [if_neg c1] at ec'
     refine ⟨_,rfl,W.aI,dx2,_,rfl,hI2,bR _ _ _ (by decide +kernel),_,rfl,W',p.1,p.2,5,?_,po2.rep,hpW,by omega,fun H3 q R3 F3 => ?_⟩
     ·rw [po.fr.adr.aI] <;> rfl
     ·obtain ⟨po3,es⟩:=oR g'.tk po.rep.cT hpW R3 F3
      refine ⟨_,_,rfl,po2.trans po3,?_,?_,?_,fun q hq => t7 (rest q hq) (apart q hq),?_,hlt'⟩
      ·rw [es]
       exact kL g' (gC hpW) (by decide) (by rw [(so p hpi).2.2]; decide)
      ·rw [es,Tb]
       exact hx'
      ·rw [es]
       exact ec'
      ·show (W'.ms ++ [_]).length ≤ _
       rw [List.length_append,List.length_singleton]
       omega
    ·have c1 : Vbahap.heldOn W'.st f ≤ x.cap:=by
      have : ¬ ((x.cap : Int) < (Vbahap.heldOn W'.st f : Nat)):=fun z => c (decide_eq_true z)
      omega
     rw [if_pos c1] at ec'
     exact ⟨_,W',rfl,po2,g',hx',by rw [SI c1]; exact ec',rest,by omega,hlt'⟩
  ·rintro σ H' ⟨v,W',rfl,po,g',hx',ec,_,hms,_⟩
   have e2 : (refs L).length = L.length:=by unfold refs; rw [List.length_map]
   have e1 : L.reverse.drop (refs L).length = []:=by rw [e2,← List.length_reverse,List.drop_length]
   rw [e1] at ec
   exact k H' W' ⟨po.rep,F1.trans po.fr,po.cnt⟩ ec (by omega)
def Vp (A : Ad) : Sp:=fun vs H Q _ => ∃ (W : Wd) (f cap : Nat) (x : Flight),vs = [.ref W.aI,.int f,.int cap] ∧ Rep A.toCs H W ∧ Good W.st ∧ Vbahap.flightOf W.st f = some x ∧ W.ms.length + 200 < sizeLine ∧
 ∀ (H' : Hp) (W' : Wd),aA A.toCs H W H' W' → W'.st = Vbahap.clearFlight (Vbahap.withdraw (Vbahap.setFlight W.st { x with cap:=cap }) f cap ((W.st.truths.filter fun t => t.f == f && t.status == 1).reverse)) f → Q .aC H'
theorem WQ {s : State} {x : Flight} {f : Nat} (hx : Vbahap.flightOf s f = some x) {u : Flight} (hu : u.f = x.f) : Vbahap.flightOf (Vbahap.setFlight s u) f = some u:=by
 have hf:=(ac0 hx).2
 unfold Vbahap.flightOf Vbahap.setFlight at *
 simp only
 generalize s.flights = l at *
 induction l with
 | nil => cases hx
 | cons y l ih =>
   rw [List.map_cons]
   by_cases c : y.f = u.f
   ·rw [if_pos c,List.find?_cons_of_pos (p:=fun x : Flight => x.f == f) (by show (u.f == f) = true; rw [hu,hf]; exact beq_self_eq_true _)]
   ·rw [if_neg c]
    have n : ¬ ((y.f == f) = true):=fun z => c (by rw [hu,hf]; exact eq_of_beq z)
    rw [List.find?_cons_of_neg (p:=fun x : Flight => x.f == f) n]
    rw [List.find?_cons_of_neg (p:=fun x : Flight => x.f == f) n] at hx
    exact ih hx
theorem Yp (T : Txt w.params K mg A) : aE P w K mg base aQ 5 A.hZ A.sf ["self","f","cap"] (Vp A):=by
 have nd:=IB.nd
 have Fb:=KW (P:=P) (w:=w) (base:=base) T
 have afi:=Yg (P:=P) (w:=w) (base:=base) T
 refine T.FL.ok IB (fun vs H Q E h => ?_) (fun cdv AA outer s H vs Q E hr h => ?_)
 ·obtain ⟨W,f,cap,x,rfl,R,g,hx,hl,k⟩:=h
  rfl
 ·obtain ⟨W,f,cap,x,rfl,R,g,hx,hl,k⟩:=h
  have A0 : aq 4 _:=hr.mono (by decide)
  have ab4 : aq 4 _:=hr.mono (by decide)
  have hu:=aZ hr
  refine ⟨_,(au (bQ (kD hu (ai (pv 0) rfl) (pv 1) (fun _ _ => rfl)) (pv 2) rfl)
   (au (bB (bh (pv 0) T.bb T.Lf afi ab4 T.aew .nil aB (aa (pv 1) ae)))
   (ah (bB (bh (pv 0) T.bb T.xa Fb A0 T.Rb .nil aB (aa (pv 1) ae)))))),?_⟩
  obtain ⟨dx,hI⟩:=R.inv
  obtain ⟨fa,hfa,hff,hfv⟩:=Bf hx
  obtain ⟨df,hfp⟩:=R.cE _ hfa
  have gf:=bL.k (k:=Sum.inl (f : Int)) R.bF
  rw [hfv] at gf
  refine ⟨_,rfl,_,rfl,W.aI,A.aG,dx,_,_,rfl,hI,T.bb,T.eC,fB _ _ _,_,rfl,_,_,rfl,gf,fa,A.bS,df,_,rfl,hfp,T.fY,T.l8,(by show 2 < 1000; decide),?_⟩
  rw [Xv]
  obtain ⟨R1,F1⟩:=R.dm (u:={ x with cap:=cap }) hfa rfl hfp
  have e1:=G7 (u:={ x with cap:=cap }) R.d7 g.fk hfa rfl
  have g1 : Good (W.dm fa { x with cap:=cap }).st:=by rw [e1]; exact lD g _
  have hx1 : Vbahap.flightOf (W.dm fa { x with cap:=cap }).st f = some { x with cap:=cap }:=by rw [e1]; exact WQ hx rfl
  have po1 : aA A.toCs H W _ (W.dm fa { x with cap:=cap }):=⟨R1,F1,rfl⟩
  obtain ⟨dx1,hI1⟩:=R1.inv
  have hT:=fg g
  refine ⟨_,rfl,W.aI,dx1,_,rfl,hI1,bR _ _ _ (by decide +kernel),_,rfl,W.dm fa { x with cap:=cap },f,{ x with cap:=cap },rfl,R1,g1,hx1,(by show W.ms.length + 100 < sizeLine; omega),fun H2 W2 po2 es2 hm2 => ?_⟩
  have et : (W.dm fa { x with cap:=cap }).st.truths = W.st.truths:=rfl
  rw [et,e1] at es2
  obtain ⟨dx2,hI2⟩:=po2.rep.inv
  rw [po2.fr.adr.aI] at hI2
  have hm2' : W2.ms.length ≤ W.ms.length + W.tr.length:=hm2
  have g2 : Good W2.st:=by
   rw [es2]
   exact qu (lD g _) (Snap.reverse (Snap.filter (lD g _).tk _)) fun t ht => by
    have:=(List.mem_filter.mp (List.mem_reverse.mp ht)).2
    simp at this
    exact this.2
  refine ⟨_,rfl,W.aI,dx2,_,rfl,hI2,bR _ _ _ (by decide +kernel),_,rfl,W2,f,?_,po2.rep,g2,(by omega),fun H3 W3 po3 es3 hm3 => ?_⟩
  ·rw [po2.fr.adr.aI] <;> rfl
  ·refine k H3 W3 ((po1.trans po2).trans po3) ?_
   rw [es3,es2]
def Vc (A : Ad) : Sp:=fun vs H Q _ => ∃ (W : Wd) (f : Nat) (x : Flight),vs = [.ref W.aI,.int f] ∧ Rep A.toCs H W ∧ Good W.st ∧ Vbahap.flightOf W.st f = some x ∧ W.ms.length + 200 < sizeLine ∧
 ∀ (H' : Hp) (W' : Wd),aA A.toCs H W H' W' → W'.st = Vbahap.turnAll (Vbahap.setFlight W.st { x with shut:=true }) 5 (W.st.truths.filter fun t => t.f == f && !Vbahap.final t.status) → Q .aC H'
theorem Yi (T : Txt w.params K mg A) : aE P w K mg base aQ 4 A.gW A.rR ["self","f"] (Vc A):=by
 have nd:=Ik.nd
 have lN:=pY (P:=P) (w:=w) (base:=base) T
 have ki:=nv (P:=P) (w:=w) (base:=base) T
 refine T.Fx.ok Ik (fun vs H Q E h => ?_) (fun cdv AA outer s H vs Q E hr h => ?_)
 ·obtain ⟨W,f,x,rfl,R,g,hx,hl,k⟩:=h
  rfl
 ·obtain ⟨W,f,x,rfl,R,g,hx,hl,k⟩:=h
  have lC : aq 3 _:=hr.mono (by decide)
  have jK : aq 1 _:=hr.mono (by decide)
  have hu:=aZ hr
  refine ⟨_,(au (bQ (kD hu (ai (pv 0) rfl) (pv 1) (fun _ _ => rfl)) jC rfl)
   (ah (dz PassesOwn.never rfl (fu (nh (CO rfl) (by rfl) T.qe Ds (aa (uS (ai (pv 0) rfl)) ae))) (ck (i:=2) nd rfl (Or.inl rfl))
    (ah (bo (PW.pt (mZ (bz eA (ai (pv 2) rfl) (pv 1) (bp _)) (mY (gp (de (cw ki jK rfl T.mK T.kZ.kp T.om .nil aB (aa (ai (pv 2) rfl) ae))))))) (ah (bB (bh (pv 0) T.bb T.nR lN lC T.sF .nil aB (aa (pv 2) (aa (bg T.su) ae))))) bH))))),?_⟩
  obtain ⟨dx,hI⟩:=R.inv
  obtain ⟨fa,hfa,hff,hfv⟩:=Bf hx
  obtain ⟨df,hfp⟩:=R.cE _ hfa
  have gf:=bL.k (k:=Sum.inl (f : Int)) R.bF
  rw [hfv] at gf
  refine ⟨_,rfl,W.aI,A.aG,dx,_,_,rfl,hI,T.bb,T.eC,fB _ _ _,_,rfl,_,_,rfl,gf,fa,A.bS,df,_,rfl,hfp,T.fY,T.l7,(by show 2 < 1000; decide),?_⟩
  rw [Xu]
  obtain ⟨R1,F1⟩:=R.dm (u:={ x with shut:=true }) hfa rfl hfp
  have e1:=G7 (u:={ x with shut:=true }) R.d7 g.fk hfa rfl
  have g1 : Good (W.dm fa { x with shut:=true }).st:=by rw [e1]; exact lD g _
  have po1 : aA A.toCs H W _ (W.dm fa { x with shut:=true }):=⟨R1,F1,rfl⟩
  generalize upd H fa (.ins A.bS df (d9 { x with shut:=true })) = H1 at R1 F1 po1 ⊢
  obtain ⟨dx1,hI1⟩:=R1.inv
  have hT:=fg g
  have hK1 : H1 W.aK = some (.dT (bY W.tr)):=R1.bJ
  refine ⟨_,rfl,W.aI,A.aG,dx1,_,_,rfl,hI1,T.bb,T.fA,jF _ _ _,W.aK,_,rfl,.inl hK1,fun p hp => ⟨p,_,_,rfl,af,.inl (aU hp _ _ hK1),fun D hD => ?_⟩⟩
  have s2 : ao H1 (upd (upd H1 p (dP p W.aK)) D (.lst ((bY W.tr).map (·.2)))):=(aU hp).trans (aU hD)
  have eL : (bY W.tr).map (·.2) = refs W.tr:=by unfold bY refs; rw [List.map_map]; rfl
  rw [eL] at s2 ⊢
  have hDn : H1 D = none:=by
   have:=(kr hD).2
   exact this
  have hD1 : upd (upd H1 p (dP p W.aK)) D (.lst (refs W.tr)) D = some (.lst (refs W.tr)):=af
  have po2:=po1.same s2
  have R2:=po2.rep
  have oD : ¬ (W.dm fa { x with shut:=true }).foot D:=R1.kN hDn
  generalize upd (upd H1 p (dP p W.aK)) D (.lst (refs W.tr)) = H2 at s2 hD1 po2 R2 ⊢
  have p0 : ∀ t : Truth,(t.f == f && !Vbahap.final t.status) = true → t.f = f ∧ (t.status = 1 ∨ t.status = 2) ∨ t.status = 0 ∧ t.f = f:=fun t h => by
   simp [Vbahap.final] at h
   omega
  refine ⟨D,rfl,⟨_,az.of hD1⟩,jQ (K:=K) (a:=D) (xs:=refs W.tr) (fun i σ H' => ∃ (v : Option V) (W' : Wd),σ = [some (.ref W.aI),some (.int f),v] ∧ aA A.toCs H2 (W.dm fa { x with shut:=true }) H' W' ∧ Good W'.st ∧
   Vbahap.turnAll W'.st 5 (((W.tr.drop i).map (·.2)).filter fun t => t.f == f && !Vbahap.final t.status) = Vbahap.turnAll (Vbahap.setFlight W.st { x with shut:=true }) 5 (W.st.truths.filter fun t => t.f == f && !Vbahap.final t.status) ∧
   (∀ p ∈ W.tr.drop i,p ∈ W'.tr) ∧ W'.ms.length ≤ W.ms.length + i) ?_ ?_ ?_ ?_⟩
  ·refine ⟨none,W.dm fa { x with shut:=true },rfl,aA.refl R2,g1,?_,fun p hp => hp,Nat.le_refl _⟩
   rw [List.drop_zero,e1]
   rfl
  ·rintro i σ H' _ ⟨v,W',_,po,_⟩
   exact az.of (po.fr.keep D _ hD1 oD)
  ·rintro i y σ H' hi ⟨v,W',rfl,po,g',ec,hin,hms⟩
   obtain ⟨p,hp,rfl⟩:=dk hi
   have hlt:=(List.getElem?_eq_some_iff.mp hp).1
   have ed : W.tr.drop i = p :: W.tr.drop (i + 1):=by
    rw [List.drop_eq_getElem_cons hlt,(List.getElem?_eq_some_iff.mp hp).2]
   have hpW : p ∈ W'.tr:=hin p (by rw [ed]; exact List.mem_cons_self)
   have rest : ∀ q ∈ W.tr.drop (i + 1),q ∈ W'.tr:=fun q hq => hin q (by rw [ed]; exact List.mem_cons_of_mem _ hq)
   have apart : ∀ q ∈ W.tr.drop (i + 1),q.1 ≠ p.1:=fun q hq e => by
    have nd2 : ((W.tr.drop i).map (·.1)).Nodup:=List.Sublist.nodup (List.Sublist.map _ (List.drop_sublist _ _)) R.cT
    rw [ed,List.map_cons,List.nodup_cons] at nd2
    exact nd2.1 (List.mem_map.mpr ⟨q,hq,e⟩)
   have to:=g'.to p.2 (gC hpW)
   obtain ⟨dp,hpp⟩:=po.rep.b9 p hpW
   rw [ed,List.map_cons,List.filter_cons] at ec
   have skip : (p.2.f == f && !Vbahap.final p.2.status) = false → Vbahap.turnAll W'.st 5 (((W.tr.drop (i + 1)).map (·.2)).filter fun t => t.f == f && !Vbahap.final t.status) = Vbahap.turnAll (Vbahap.setFlight W.st { x with shut:=true }) 5 (W.st.truths.filter fun t => t.f == f && !Vbahap.final t.status):=fun c => by
    rw [if_neg (by rw [c]; exact Bool.false_ne_true)] at ec
    exact ec
   refine ⟨_,rfl,p.1,A.aP,dp,_,_,rfl,hpp,T.bM,T.nQ,xk _,_,rfl,rfl,_,rfl,?_⟩
   rw [ie]
   refine c7 (fun c => ?_) (fun c => ?_)
   ·have c1 : p.2.f = f:=of_decide_eq_true c
    refine ⟨_,rfl,p.1,A.aP,dp,_,_,rfl,hpp,T.bM,T.gy,lz _,p.2.status,rfl,to.st.2,fun H3 s3 => ⟨_,rfl,?_⟩⟩
    have po3:=po.same s3
    refine c7 (fun c => ?_) (fun c => ?_)
    ·have c2 : Vbahap.final p.2.status = false:=by simpa using c
     have cc : (p.2.f == f && !Vbahap.final p.2.status) = true:=by rw [c1,c2]; simp
     rw [if_pos cc] at ec
     have hs12 : rank 5 + 1 ≤ rank p.2.status:=by
      unfold Vbahap.final at c2
      have h3 : ¬ (3 ≤ p.2.status):=of_decide_eq_false c2
      have h1:=to.st.1
      have : p.2.status = 1 ∨ p.2.status = 2:=by omega
      rcases this with z | z <;> rw [z] <;> decide
     obtain ⟨dx3,hI3⟩:=po3.rep.inv
     rw [po.fr.adr.aI] at hI3
     refine ⟨_,rfl,W.aI,dx3,_,rfl,hI3,bR _ _ _ (by decide +kernel),_,rfl,W',p.1,p.2,5,?_,po3.rep,hpW,by omega,fun H4 q R4 F4 => ?_⟩
     ·rw [po.fr.adr.aI] <;> rfl
     ·obtain ⟨po4,es⟩:=oR g'.tk po.rep.cT hpW R4 F4
      refine ⟨_,_,rfl,po3.trans po4,?_,?_,fun q hq => t7 (rest q hq) (apart q hq),?_⟩
      ·rw [es]
       exact kL g' (gC hpW) (by decide) hs12
      ·rw [es]
       exact ec
      ·show (W'.ms ++ [_]).length ≤ _
       rw [List.length_append,List.length_singleton]
       omega
    ·have c2 : Vbahap.final p.2.status = true:=by simpa using c
     exact ⟨_,W',rfl,po3,g',skip (by rw [c2]; simp),rest,by omega⟩
   ·refine a8 ?_
    have c1 : ¬ p.2.f = f:=fun z => c (decide_eq_true z)
    exact ⟨_,W',rfl,po,g',skip (by simp [c1]),rest,by omega⟩
  ·rintro σ H' ⟨v,W',rfl,po,g',ec,_,hms⟩
   have e2 : (refs W.tr).length = W.tr.length:=by unfold refs; rw [List.length_map]
   rw [e2,List.drop_length] at ec
   exact k H' W' (po2.trans po) ec
def Vb (A : Ad) : Sp:=fun vs H Q _ => ∃ (W : Wd) (f n : Nat),vs = [.ref W.aI,.int f,.int n] ∧ Rep A.toCs H W ∧ W.tr.length ≤ sizeLine ∧ 1 ≤ n ∧ ∀ H',ao H H' → Q (.int (Vbahap.first W.st f n : Nat)) H'
theorem Yh (T : Txt w.params K mg A) : aE P w K mg base aQ 4 A.gU A.rQ ["self","f","seats"] (Vb A):=by
 have nd:=Ij.nd
 have E8:=KS (P:=P) (w:=w) (base:=base) T
 have ko:=nF (P:=P) (w:=w) (base:=base) T
 have E7:=KR (P:=P) (w:=w) (base:=base) T
 refine T.Fw.ok Ij (fun vs H Q E h => ?_) (fun cdv AA outer s H vs Q E hr h => ?_)
 ·obtain ⟨W,f,n,rfl,R,hl,hn,k⟩:=h
  rfl
 ·obtain ⟨W,f,n,rfl,R,hl,hn,k⟩:=h
  have AY : aq 3 _:=hr.mono (by decide)
  have jO : aq 1 _:=hr.mono (by decide)
  have AX : aq 1 _:=hr.mono (by decide)
  have hu:=aZ hr
  refine ⟨_,(au (bo (gp (de (bh (pv 0) T.bb T.w6 E7 AX T.Q8 .nil aB (aa (pv 1) ae)))) (ah (aT (bg T.sv))) bH)
   (au (bo (bz pU (pv 2) (bh (pv 0) T.bb T.w8 E8 AY T.Q9 .nil aB (aa (pv 1) ae)) (bp _)) (ah (aT (bg T.og))) bH)
   (au (bo (bz lg (dB fZ (by rfl) T.dX PySem.boot_len (aa (bh (pv 0) T.bb T.mr ko jO T.ou .nil aB (aa (pv 1) (aa (bg T.oa) ae))) ae)) (bg T.QJ) (bp _)) (ah (aT (bg T.oa))) bH)
   (ah (aT (bg T.sv)))))),?_⟩
  obtain ⟨dx,hI⟩:=R.inv
  refine ⟨_,rfl,W.aI,dx,_,rfl,hI,bR _ _ _ (by decide +kernel),_,rfl,W,f,rfl,R,_,rfl,?_⟩
  have fi : dR W.st f = true → Vbahap.first W.st f n = if n ≤ Vbahap.roomOn W.st f then 1 else if (Vbahap.waitingOn W.st f).length < Vbahap.MOSTWAIT then 2 else 3:=fun h => by
   unfold dR at h
   unfold Vbahap.first
   cases e : Vbahap.flightOf W.st f with
   | none => rw [e] at h; cases h
   | some x =>
     rw [e] at h
     simp only at h ⊢
     rw [if_neg (by intro z; rw [z] at h; cases h)]
  have fo : dR W.st f = false → Vbahap.first W.st f n = 3:=fun h => by
   unfold dR at h
   unfold Vbahap.first
   cases e : Vbahap.flightOf W.st f with
   | none => rfl
   | some x =>
     rw [e] at h
     simp only at h ⊢
     rw [if_pos (by simpa using h)]
  cases hs : dR W.st f with
  | false =>
    refine bc ?_
    have:=k H (ao.refl H)
    rw [fo hs] at this
    exact this
  | true =>
    refine a8 ?_
    refine ⟨_,rfl,_,rfl,W.aI,dx,_,rfl,hI,bR _ _ _ (by decide +kernel),_,rfl,W,f,rfl,R,hl,fun H1 s1 => ?_⟩
    refine ⟨_,_,rfl,rfl,_,rfl,c7 (fun c => ?_) (fun c => ?_)⟩
    ·have c1:=(o7 hn).mp (of_decide_eq_true c)
     have:=k H1 s1
     rw [fi hs,if_pos c1] at this
     exact this
    ·have c1 : ¬ n ≤ Vbahap.roomOn W.st f:=fun z => c (decide_eq_true ((o7 hn).mpr z))
     have R1:=R.same s1
     obtain ⟨dx1,hI1⟩:=R1.inv
     refine ⟨_,rfl,W.aI,dx1,_,rfl,hI1,bR _ _ _ (by decide +kernel),_,rfl,W,f,2,rfl,R1,hl,fun D hD => ?_⟩
     refine ⟨D,_,rfl,.inl (az.of af),_,_,rfl,rfl,_,rfl,?_⟩
     have el : (refs (W.tr.filter fun p => a9 f 2 p.2)).length = (Vbahap.waitingOn W.st f).length:=by
      rw [tY]
      unfold refs
      rw [List.length_map,List.length_map]
     rw [el]
     have s2 : ao H (upd H1 D (.lst (refs (W.tr.filter fun p => a9 f 2 p.2)))):=s1.trans (aU hD)
     refine c7 (fun c => ?_) (fun c => ?_)
     ·have c2 : (Vbahap.waitingOn W.st f).length < Vbahap.MOSTWAIT:=by
       have:=of_decide_eq_true c
       show (Vbahap.waitingOn W.st f).length < 6
       omega
      have:=k _ s2
      rw [fi hs,if_neg c1,if_pos c2] at this
      exact this
     ·have c2 : ¬ (Vbahap.waitingOn W.st f).length < Vbahap.MOSTWAIT:=by
       intro z
       have z' : (Vbahap.waitingOn W.st f).length < 6:=z
       exact c (decide_eq_true (by omega))
      have:=k _ s2
      rw [fi hs,if_neg c1,if_neg c2] at this
      exact this
end
end Sh
end
section
namespace Sh
open PySem PySem.Spec PyProof.Rows L2
open Vbahap (State Truth View Flight Msg)
theorem aA.pre {A : Cs} {H H1 H2 : Hp} {W W2 : Wd} (s : ao H H1) (po : aA A H1 W H2 W2) : aA A H W H2 W2:=⟨po.rep,(aO.same s).trans po.fr,po.cnt⟩
theorem WO {s : State} (g : (s.truths.map bC).Nodup) {t : Truth} (ht : t ∈ s.truths) : Vbahap.setTruth s t = s:=by
 unfold Vbahap.setTruth
 have e : (s.truths.map fun u => if u.r = t.r ∧ u.no = t.no then t else u) = s.truths:=by
  conv => rhs; rw [← List.map_id s.truths]
  refine List.map_congr_left fun u hu => ?_
  by_cases c : u.r = t.r ∧ u.no = t.no
  ·rw [if_pos c]
   exact (fw g hu ht (Prod.ext c.1 c.2)).symm
  ·rw [if_neg c]
   rfl
 rw [e]
theorem ma {n : Nat} (h : n + 200 < sizeLine) : n < sizeLine:=by omega
section
variable {P : Program} {w : World} {K : PySem.W.Frag} {mg : Str → Option Value} {base : Heap} {A : Ad}
def Vl (A : Ad) : Sp:=fun vs H Q _ => ∃ (W : Wd) (r no f n : Nat),vs = [.ref W.aI,.int r,.int no,.int f,.int n] ∧ Rep A.toCs H W ∧ Good W.st ∧ 1 ≤ n ∧ W.ms.length + 200 < sizeLine ∧
 ∀ (H' : Hp) (W' : Wd),aA A.toCs H W H' W' → W'.st = Vbahap.receive W.st (.ask r no f n) → Q .aC H'
theorem Ym (T : Txt w.params K mg A) : aE P w K mg base aQ 5 A.hJ A.r4 ["self","r","no","f","seats"] (Vl A):=by
 have nd:=Iw.nd
 have E9:=KU (P:=P) (w:=w) (base:=base) T
 have afj:=Yh (P:=P) (w:=w) (base:=base) T
 have km:=nE (P:=P) (w:=w) (base:=base) T
 refine T.FH.ok Iw (fun vs H Q E h => ?_) (fun cdv AA outer s H vs Q E hr h => ?_)
 ·obtain ⟨W,r,no,f,n,rfl,R,g,hn,hl,k⟩:=h
  rfl
 ·obtain ⟨W,r,no,f,n,rfl,R,g,hn,hl,k⟩:=h
  have AZ : aq 3 _:=hr.mono (by decide)
  have ab5 : aq 4 _:=hr.mono (by decide)
  have jN : aq 2 _:=hr.mono (by decide)
  have hu:=aZ hr
  refine ⟨_,(au (bI (i:=5) nd rfl (Or.inl rfl) (k9 hu (ai (pv 0) rfl) (dJ (aa (pv 1) (aa (pv 2) ae))) ⟨rfl,rfl,rfl,rfl⟩))
   (ah (bo (bz gu (pv 5) dA (bp _)) (ah (bB (bh (pv 0) T.bb T.w9 E9 AZ T.Ra .nil aB (aa (pv 1) (aa (pv 2) (aa (pv 3) (aa (pv 4) (aa (bh (pv 0) T.bb T.Lg afj ab5 T.aex .nil aB (aa (pv 3) (aa (pv 4) ae))) ae)))))))) (ah (bB (bh (pv 0) T.bb T.mq km jN T.ot .nil aB (aa (pv 5) ae))))))),?_⟩
  obtain ⟨dx,hI⟩:=R.inv
  have hT:=fg g
  refine ⟨_,rfl,W.aI,A.aG,dx,_,_,rfl,hI,T.bb,T.fA,jF _ _ _,W.aK,rfl,.inr ⟨_,.inl R.bJ⟩,_,rfl,_,rfl,(by show 2 ≤ sizeLine; decide),fun q hq => ?_⟩
  have s1 : ao H (upd H q (.tup [.int r,.int no])):=aU hq
  have gd : bL (upd H q (.tup [.int r,.int no])) W.aK (.ref q) (bX (bY W.tr) (bE r no)):=bL.t (k:=bE r no) (s1 _ _ R.bJ) af
  have R1:=R.same s1
  generalize upd H q (.tup [.int r,.int no]) = H1 at s1 gd R1 ⊢
  obtain ⟨dx1,hI1⟩:=R1.inv
  refine ⟨_,gd,?_⟩
  rcases mw W.tr r no with ⟨p,hp,hr,hno,hv,hs⟩ | ⟨hv,hs⟩
  ·have ht : Vbahap.truthOf W.st r no = some p.2:=hs
   rw [hv]
   refine ⟨_,rfl,rfl,_,rfl,a8 ?_⟩
   refine ⟨_,rfl,W.aI,dx1,_,rfl,hI1,bR _ _ _ (by decide +kernel),_,rfl,W,p.1,p.2,rfl,R1,hp,ma hl,fun H2 q2 R2 F2 => ?_⟩
   refine k H2 _ (aA.pre s1 ⟨R2,F2,gn _ _ _⟩) ?_
   rw [Wd.fq]
   show _ = (match Vbahap.truthOf W.st r no with | some t => Vbahap.send W.st [Vbahap.stMsg t] | none => _)
   rw [ht]
  ·have ht : Vbahap.truthOf W.st r no = none:=hs
   rw [hv]
   refine ⟨_,rfl,rfl,_,rfl,bc ?_⟩
   refine ⟨_,rfl,W.aI,dx1,_,rfl,hI1,bR _ _ _ (by decide +kernel),_,rfl,_,rfl,_,rfl,_,rfl,_,rfl,W.aI,dx1,_,rfl,hI1,bR _ _ _ (by decide +kernel),_,rfl,_,rfl,W,f,n,rfl,R1,lA hT,hn,fun H2 s2 => ?_⟩
   refine ⟨W,r,no,f,n,Vbahap.first W.st f n,rfl,R1.same s2,ht,(by rw [sizeLine_eq]; omega),ma hl,fun H3 W3 po es em => ?_⟩
   refine k H3 W3 (aA.pre (s1.trans s2) po) ?_
   rw [es]
   show _ = (match Vbahap.truthOf W.st r no with | some t => Vbahap.send W.st [Vbahap.stMsg t] | none => _)
   rw [ht]
def Vk (A : Ad) : Sp:=fun vs H Q _ => ∃ (W : Wd) (r no : Nat),vs = [.ref W.aI,.int r,.int no] ∧ Rep A.toCs H W ∧ Good W.st ∧ W.ms.length + 200 < sizeLine ∧
 ∀ (H' : Hp) (W' : Wd),aA A.toCs H W H' W' → W'.st = Vbahap.receive W.st (.can r no) → Q .aC H'
theorem Yl (T : Txt w.params K mg A) : aE P w K mg base aQ 5 A.hE A.r0 ["self","r","no"] (Vk A):=by
 have nd:=Iv.nd
 have Fb:=KW (P:=P) (w:=w) (base:=base) T
 have E9:=KU (P:=P) (w:=w) (base:=base) T
 have km:=nE (P:=P) (w:=w) (base:=base) T
 have lN:=pY (P:=P) (w:=w) (base:=base) T
 have ki:=nv (P:=P) (w:=w) (base:=base) T
 refine T.FG.ok Iv (fun vs H Q E h => ?_) (fun cdv AA outer s H vs Q E hr h => ?_)
 ·obtain ⟨W,r,no,rfl,R,g,hl,k⟩:=h
  rfl
 ·obtain ⟨W,r,no,rfl,R,g,hl,k⟩:=h
  have A0 : aq 4 _:=hr.mono (by decide)
  have AZ : aq 3 _:=hr.mono (by decide)
  have jN : aq 2 _:=hr.mono (by decide)
  have lC : aq 3 _:=hr.mono (by decide)
  have jK : aq 1 _:=hr.mono (by decide)
  have hu:=aZ hr
  refine ⟨_,(au (bI (i:=3) nd rfl (Or.inl rfl) (k9 hu (ai (pv 0) rfl) (dJ (aa (pv 1) (aa (pv 2) ae))) ⟨rfl,rfl,rfl,rfl⟩))
   (ah (bo (bz gu (pv 3) dA (bp _)) (ah (bB (bh (pv 0) T.bb T.w9 E9 AZ T.Ra .nil aB (aa (pv 1) (aa (pv 2) (aa ay (aa ay (aa (bg T.sy) ae)))))))) (ah (bo (de (cw ki jK rfl T.mK T.kZ.kp T.om .nil aB (aa (ai (pv 3) rfl) ae))) (ah (bB (bh (pv 0) T.bb T.mq km jN T.ot .nil aB (aa (pv 3) ae)))) (au (bB (bh (pv 0) T.bb T.nR lN lC T.sF .nil aB (aa (pv 3) (aa (bg T.sy) ae))))
   (ah (bB (bh (pv 0) T.bb T.xa Fb A0 T.Rb .nil aB (aa (ai (pv 3) rfl) ae)))))))))),?_⟩
  obtain ⟨dx,hI⟩:=R.inv
  have hT:=fg g
  refine ⟨_,rfl,W.aI,A.aG,dx,_,_,rfl,hI,T.bb,T.fA,jF _ _ _,W.aK,rfl,.inr ⟨_,.inl R.bJ⟩,_,rfl,_,rfl,(by show 2 ≤ sizeLine; decide),fun q hq => ?_⟩
  have s1 : ao H (upd H q (.tup [.int r,.int no])):=aU hq
  have gd : bL (upd H q (.tup [.int r,.int no])) W.aK (.ref q) (bX (bY W.tr) (bE r no)):=bL.t (k:=bE r no) (s1 _ _ R.bJ) af
  have R1:=R.same s1
  generalize upd H q (.tup [.int r,.int no]) = H1 at s1 gd R1 ⊢
  obtain ⟨dx1,hI1⟩:=R1.inv
  refine ⟨_,gd,?_⟩
  rcases mw W.tr r no with ⟨p,hp,hr,hno,hv,hs⟩ | ⟨hv,hs⟩
  ·have ht : Vbahap.truthOf W.st r no = some p.2:=hs
   have to:=g.to p.2 (gC hp)
   obtain ⟨dp,hpp⟩:=R1.b9 p hp
   have er : Vbahap.receive W.st (.can r no) = if Vbahap.final p.2.status = true then Vbahap.send W.st [Vbahap.stMsg p.2] else Vbahap.clearFlight (Vbahap.turn W.st p.2 4) p.2.f:=by
    show (match Vbahap.truthOf W.st r no with | none => _ | some t => if Vbahap.final t.status = true then Vbahap.send W.st [Vbahap.stMsg t] else Vbahap.clearFlight (Vbahap.turn W.st t 4) t.f) = _
    rw [ht]
   rw [hv]
   refine ⟨_,rfl,rfl,_,rfl,a8 ?_⟩
   refine ⟨_,rfl,p.1,A.aP,dp,_,_,rfl,hpp,T.bM,T.gy,lz _,p.2.status,rfl,to.st.2,fun H2 s2 => ⟨_,rfl,?_⟩⟩
   have R2:=R1.same s2
   obtain ⟨dx2,hI2⟩:=R2.inv
   refine c7 (fun c => ?_) (fun c => ?_)
   ·refine ⟨_,rfl,W.aI,dx2,_,rfl,hI2,bR _ _ _ (by decide +kernel),_,rfl,W,p.1,p.2,rfl,R2,hp,ma hl,fun H3 q2 R3 F3 => ?_⟩
    refine k H3 _ (aA.pre (s1.trans s2) ⟨R3,F3,gn _ _ _⟩) ?_
    rw [Wd.fq,er,if_pos c]
   ·have h1:=to.st.1
    have hr4 : rank 4 + 1 ≤ rank p.2.status:=by
     unfold Vbahap.final at c
     have h3 : ¬ (3 ≤ p.2.status):=fun z => c (decide_eq_true z)
     have : p.2.status = 1 ∨ p.2.status = 2:=by omega
     rcases this with z | z <;> rw [z] <;> decide
    refine ⟨_,rfl,W.aI,dx2,_,rfl,hI2,bR _ _ _ (by decide +kernel),_,rfl,W,p.1,p.2,4,rfl,R2,hp,ma hl,fun H3 q2 R3 F3 => ?_⟩
    obtain ⟨po3,es⟩:=oR g.tk R.cT hp R3 F3
    have g3 : Good ((W.dc p.1 (turned p.2 4)).push q2 (Vbahap.stMsg (turned p.2 4))).st:=by rw [es]; exact kL g (gC hp) (by decide) hr4
    have hp3 : (p.1,turned p.2 4) ∈ ((W.dc p.1 (turned p.2 4)).push q2 (Vbahap.stMsg (turned p.2 4))).tr:=List.mem_map.mpr ⟨p,hp,if_pos rfl⟩
    obtain ⟨d3,hp3'⟩:=R3.b9 _ hp3
    obtain ⟨dx3,hI3⟩:=R3.inv
    refine ⟨_,rfl,W.aI,dx3,_,rfl,hI3,bR _ _ _ (by decide +kernel),_,rfl,p.1,A.aP,d3,_,_,rfl,hp3',T.bM,T.nQ,xk _,(W.dc p.1 (turned p.2 4)).push q2 (Vbahap.stMsg (turned p.2 4)),p.2.f,rfl,R3,g3,?_,fun H4 W4 po4 es4 hm4 => ?_⟩
    ·show (W.ms ++ [_]).length + 100 < sizeLine
     rw [List.length_append,List.length_singleton]
     omega
    ·refine k H4 W4 ((aA.pre (s1.trans s2) po3).trans po4) ?_
     rw [es4,es,er,if_neg c]
  ·have ht : Vbahap.truthOf W.st r no = none:=hs
   rw [hv]
   refine ⟨_,rfl,rfl,_,rfl,bc ?_⟩
   refine ⟨_,rfl,W.aI,dx1,_,rfl,hI1,bR _ _ _ (by decide +kernel),_,rfl,_,rfl,W,r,no,0,0,4,rfl,R1,ht,(by rw [sizeLine_eq]; omega),ma hl,fun H3 W3 po es em => ?_⟩
   refine k H3 W3 (aA.pre s1 po) ?_
   rw [es]
   show _ = (match Vbahap.truthOf W.st r no with | none => Vbahap.newTruth W.st r no 0 0 4 | some t => _)
   rw [ht]
def Vm (A : Ad) : Sp:=fun vs H Q _ => ∃ (W : Wd) (r no v : Nat),vs = [.ref W.aI,.int r,.int no,.int v] ∧ Rep A.toCs H W ∧ Good W.st ∧ cY W.st r no v ∧
 ∀ (H' : Hp) (W' : Wd),aA A.toCs H W H' W' → W'.st = Vbahap.receive W.st (.ack r no v) → Q .aC H'
theorem Yn (T : Txt w.params K mg A) : aE P w K mg base aQ 1 A.hU A.r6 ["self","r","no","version"] (Vm A):=by
 have nd:=Iy.nd
 refine T.FI.ok Iy (fun vs H Q E h => ?_) (fun cdv AA outer s H vs Q E hr h => ?_)
 ·obtain ⟨W,r,no,v,rfl,R,g,hv0,k⟩:=h
  rfl
 ·obtain ⟨W,r,no,v,rfl,R,g,hv0,k⟩:=h
  have hu:=aZ hr
  refine ⟨_,(au (bI (i:=4) nd rfl (Or.inl rfl) (kD hu (ai (pv 0) rfl) (dJ (aa (pv 1) (aa (pv 2) ae))) (fun _ _ => rfl)))
   (ah (bo (PW.pt (mZ (bz lg (ai (pv 4) rfl) (pv 3) (bp _)) (mY (bz pU (pv 3) (ai (pv 4) rfl) (bp _))))) (ah (bQ (pv 4) (pv 3) rfl)) bH))),?_⟩
  obtain ⟨dx,hI⟩:=R.inv
  obtain ⟨t0,ht0⟩:=hv0.truth
  rcases mw W.tr r no with ⟨p,hp,hr,hno,hv,hs⟩ | ⟨hv,hs⟩
  ·have ht : Vbahap.truthOf W.st r no = some p.2:=hs
   have hle : v ≤ p.2.version:=by
    obtain ⟨u,hu,hur,hun,huv⟩:=hv0
    have e : u = p.2:=fw g.tk hu (gC hp) (Prod.ext (by show u.r = p.2.r; omega) (by show u.no = p.2.no; omega))
    rw [← e]
    exact huv
   have er : Vbahap.receive W.st (.ack r no v) = Vbahap.setTruth W.st { p.2 with acked:=max p.2.acked v }:=by
    show (match Vbahap.truthOf W.st r no with | none => W.st | some t => Vbahap.setTruth W.st { t with acked:=max t.acked (min v t.version) }) = _
    rw [ht]
    show Vbahap.setTruth W.st { p.2 with acked:=max p.2.acked (min v p.2.version) } = _
    rw [Nat.min_eq_left hle]
   refine ⟨_,rfl,W.aI,A.aG,dx,_,_,rfl,hI,T.bb,T.fA,jF _ _ _,_,rfl,_,rfl,(by show 2 ≤ sizeLine; decide),fun q hq => ?_⟩
   have s1 : ao H (upd H q (.tup [.int r,.int no])):=aU hq
   have gd : bL (upd H q (.tup [.int r,.int no])) W.aK (.ref q) (bX (bY W.tr) (bE r no)):=bL.t (k:=bE r no) (s1 _ _ R.bJ) af
   have R1:=R.same s1
   generalize upd H q (.tup [.int r,.int no]) = H1 at s1 gd R1 ⊢
   rw [hv] at gd
   refine ⟨W.aK,_,rfl,gd,?_⟩
   obtain ⟨dp,hpp⟩:=R1.b9 p hp
   have same : p.2.acked = max p.2.acked v → Vbahap.receive W.st (.ack r no v) = W.st:=fun e => by
    rw [er,← e]
    exact WO g.tk (gC hp)
   refine ⟨_,rfl,p.1,A.aP,dp,_,_,rfl,hpp,T.bM,T.lp,qm _,_,rfl,_,_,rfl,rfl,_,rfl,c7 (fun c => ?_) (fun c => ?_)⟩
   ·have c1 : p.2.acked < v:=by have:=of_decide_eq_true c; omega
    refine ⟨_,rfl,_,rfl,p.1,A.aP,dp,_,_,rfl,hpp,T.bM,T.gx,ly _,_,_,rfl,rfl,_,rfl,c7 (fun c => ?_) (fun c => ?_)⟩
    ·refine ⟨_,rfl,_,rfl,p.1,A.aP,dp,_,rfl,hpp,T.bM,T.lp,(by show 7 < 1000; decide),?_⟩
     rw [Xt]
     obtain ⟨R2,F2⟩:=R1.dc (u:={ p.2 with acked:=v }) hp rfl hpp
     refine k _ _ (aA.pre s1 ⟨R2,F2,rfl⟩) ?_
     have e2:=G6 (u:={ p.2 with acked:=v }) R.cT g.tk hp rfl
     rw [e2,er,Nat.max_eq_right (Nat.le_of_lt c1)]
    ·exact absurd (decide_eq_true (by omega)) c
   ·refine a8 ?_
    have c1 : ¬ p.2.acked < v:=fun z => c (decide_eq_true (by omega))
    exact k H1 W ⟨R1,aO.same s1,rfl⟩ (same (Nat.max_eq_left (by omega)).symm).symm
  ·have e : none = some t0:=hs.symm.trans ht0
   cases e
def abz : Msg → Bool
 | .st _ _ _ _ => true
 | _ => false
theorem dw {x : V} {l : List V} : cS (x :: l) 0 = some x:=ef (j:=0) rfl
theorem lI {x y : V} {l : List V} : cS (x :: y :: l) 1 = some y:=ef (j:=1) rfl
theorem at2 {x y z : V} {l : List V} : cS (x :: y :: z :: l) 2 = some z:=ef (j:=2) rfl
theorem Dv {x y z u : V} {l : List V} : cS (x :: y :: z :: u :: l) 3 = some u:=ef (j:=3) rfl
theorem Rf {x y z u v : V} {l : List V} : cS (x :: y :: z :: u :: v :: l) 4 = some v:=ef (j:=4) rfl
def Vn (A : Ad) : Sp:=fun vs H Q _ => ∃ (W : Wd) (p : Addr) (m : Msg),vs = [.ref W.aI,.ref p] ∧ H p = some (.tup (dM m)) ∧ abz m = false ∧ Rep A.toCs H W ∧ Good W.st ∧ cX W.st m ∧ W.ms.length + 200 < sizeLine ∧
 ∀ (H' : Hp) (W' : Wd),aA A.toCs H W H' W' → W'.st = Vbahap.receive W.st m → Q .aC H'
theorem Yo (T : Txt w.params K mg A) : aE P w K mg base aQ 6 A.hW A.r8 ["self","message"] (Vn A):=by
 have nd:=Iz.nd
 have afp:=Yn (P:=P) (w:=w) (base:=base) T
 have afo:=Ym (P:=P) (w:=w) (base:=base) T
 have afn:=Yl (P:=P) (w:=w) (base:=base) T
 refine T.FJ.ok Iz (fun vs H Q E h => ?_) (fun cdv AA outer s H vs Q E hr h => ?_)
 ·obtain ⟨W,p,m,rfl,hp,hst,R,g,hm,hl,k⟩:=h
  rfl
 ·obtain ⟨W,p,m,rfl,hp,hst,R,g,hm,hl,k⟩:=h
  have acb : aq 1 _:=hr.mono (by decide)
  have aca : aq 5 _:=hr.mono (by decide)
  have ab9 : aq 5 _:=hr.mono (by decide)
  have hu:=aZ hr
  refine ⟨_,(ah (bo (bz eA (a6 cb (pv 1) ay (fun _ _ => rfl)) (bg T.Dn) (bp _)) (ah (bB (bh (pv 0) T.bb T.Lk afo aca T.aeC .nil aB (aa (a6 cb (pv 1) ay (fun _ _ => rfl)) (aa (a6 cb (pv 1) ay (fun _ _ => rfl)) (aa (a6 cb (pv 1) ay (fun _ _ => rfl)) (aa (a6 cb (pv 1) ay (fun _ _ => rfl)) ae))))))) (ah (bo (bz eA (a6 cb (pv 1) ay (fun _ _ => rfl)) (bg T.Dk) (bp _)) (ah (bB (bh (pv 0) T.bb T.Lj afn ab9 T.aeB .nil aB (aa (a6 cb (pv 1) ay (fun _ _ => rfl)) (aa (a6 cb (pv 1) ay (fun _ _ => rfl)) ae))))) (ah (bo (bz eA (a6 cb (pv 1) ay (fun _ _ => rfl)) (bg T.Dr) (bp _)) (ah (bB (bh (pv 0) T.bb T.Ll afp acb T.aeD .nil aB (aa (a6 cb (pv 1) ay (fun _ _ => rfl)) (aa (a6 cb (pv 1) ay (fun _ _ => rfl)) (aa (a6 cb (pv 1) ay (fun _ _ => rfl)) ae)))))) bH)))))),?_⟩
  obtain ⟨dx,hI⟩:=R.inv
  cases m with
  | ask r no f n =>
    have hq : a4 K H p (dM (.ask r no f n)):=a4.of hp
    refine ⟨_,rfl,p,_,_,_,rfl,rfl,hq,dw,rfl,_,rfl,bc ?_⟩
    exact ⟨_,rfl,W.aI,dx,_,rfl,hI,bR _ _ _ (by decide +kernel),_,rfl,p,_,_,_,rfl,rfl,hq,lI,_,rfl,p,_,_,_,rfl,rfl,hq,at2,_,rfl,p,_,_,_,rfl,rfl,hq,Dv,_,rfl,p,_,_,_,rfl,rfl,hq,Rf,W,r,no,f,n,rfl,R,g,hm.2.2.1,hl,k⟩
  | can r no =>
    have hq : a4 K H p (dM (.can r no)):=a4.of hp
    refine ⟨_,rfl,p,_,_,_,rfl,rfl,hq,dw,rfl,_,rfl,a8 ?_⟩
    refine ⟨_,rfl,p,_,_,_,rfl,rfl,hq,dw,rfl,_,rfl,bc ?_⟩
    exact ⟨_,rfl,W.aI,dx,_,rfl,hI,bR _ _ _ (by decide +kernel),_,rfl,p,_,_,_,rfl,rfl,hq,lI,_,rfl,p,_,_,_,rfl,rfl,hq,at2,W,r,no,rfl,R,g,hl,k⟩
  | st r no v s => cases hst
  | ack r no v =>
    have hq : a4 K H p (dM (.ack r no v)):=a4.of hp
    refine ⟨_,rfl,p,_,_,_,rfl,rfl,hq,dw,rfl,_,rfl,a8 ?_⟩
    refine ⟨_,rfl,p,_,_,_,rfl,rfl,hq,dw,rfl,_,rfl,a8 ?_⟩
    refine ⟨_,rfl,p,_,_,_,rfl,rfl,hq,dw,rfl,_,rfl,bc ?_⟩
    exact ⟨_,rfl,W.aI,dx,_,rfl,hI,bR _ _ _ (by decide +kernel),_,rfl,p,_,_,_,rfl,rfl,hq,lI,_,rfl,p,_,_,_,rfl,rfl,hq,at2,_,rfl,p,_,_,_,rfl,rfl,hq,Dv,W,r,no,v,rfl,R,g,hm,k⟩
def gg (t : Truth) : Option Msg:=if t.acked < t.version then some (Vbahap.stMsg t) else none
def Ve (A : Ad) : Sp:=fun vs H Q _ => ∃ (W : Wd),vs = [.ref W.aI] ∧ Rep A.toCs H W ∧ Good W.st ∧ W.ms.length + 100 < sizeLine ∧
 ∀ (H' : Hp) (W' : Wd),aA A.toCs H W H' W' → W'.st = Vbahap.send W.st (W.st.truths.filterMap gg) → Q .aC H'
theorem G8 (s : State) : Vbahap.send s [] = s:=by
 unfold Vbahap.send
 rw [List.append_nil]
theorem ui (s : State) (l m : List Msg) : Vbahap.send (Vbahap.send s l) m = Vbahap.send s (l ++ m):=by
 unfold Vbahap.send
 simp
theorem Nw {α β : Type} {q : α → Option β} {l : List α} {i : Nat} {x : α} (h : l[i]? = some x) : (l.take (i + 1)).filterMap q = (l.take i).filterMap q ++ (q x).toList:=by
 rw [take_snoc h,List.filterMap_append]
 have e1 : [x].filterMap q = (q x).toList:=by
  cases e : q x with
  | none => rw [List.filterMap_cons_none e]; rfl
  | some y => rw [List.filterMap_cons_some e]; rfl
 rw [e1]
theorem Yj (T : Txt w.params K mg A) : aE P w K mg base aQ 3 A.gY A.rT ["self"] (Ve A):=by
 have nd:=Im.nd
 have km:=nE (P:=P) (w:=w) (base:=base) T
 refine T.Fz.ok Im (fun vs H Q E h => ?_) (fun cdv AA outer s H vs Q E hr h => ?_)
 ·obtain ⟨W,rfl,R,g,hl,k⟩:=h
  rfl
 ·obtain ⟨W,rfl,R,g,hl,k⟩:=h
  have jN : aq 2 _:=hr.mono (by decide)
  have hu:=aZ hr
  refine ⟨_,(ah (dz PassesOwn.never rfl (fu (nh (CO rfl) (by rfl) T.qe Ds (aa (uS (ai (pv 0) rfl)) ae))) (ck (i:=1) nd rfl (Or.inl rfl))
   (ah (bo (bz lg (ai (pv 1) rfl) (ai (pv 1) rfl) (bp _)) (ah (bB (bh (pv 0) T.bb T.mq km jN T.ot .nil aB (aa (pv 1) ae)))) bH)))),?_⟩
  obtain ⟨dx,hI⟩:=R.inv
  have hT:=fg g
  refine ⟨_,rfl,W.aI,A.aG,dx,_,_,rfl,hI,T.bb,T.fA,jF _ _ _,_,_,rfl,.inl R.bJ,fun p hp => ⟨p,_,_,rfl,af,.inl (aU hp _ _ R.bJ),fun D hD => ?_⟩⟩
  have s2 : ao H (upd (upd H p (dP p W.aK)) D (.lst ((bY W.tr).map (·.2)))):=(aU hp).trans (aU hD)
  have eL : (bY W.tr).map (·.2) = refs W.tr:=by unfold bY refs; rw [List.map_map]; rfl
  rw [eL] at s2 ⊢
  have hDn : H D = none:=(kr hD).2
  have hD1 : upd (upd H p (dP p W.aK)) D (.lst (refs W.tr)) D = some (.lst (refs W.tr)):=af
  have R2:=R.same s2
  have oD : ¬ W.foot D:=R.kN hDn
  generalize upd (upd H p (dP p W.aK)) D (.lst (refs W.tr)) = H2 at s2 hD1 R2 ⊢
  refine ⟨D,rfl,⟨_,az.of hD1⟩,jQ (K:=K) (a:=D) (xs:=refs W.tr) (fun i σ H' => ∃ (v : Option V) (W' : Wd),σ = [some (.ref W.aI),v] ∧ aA A.toCs H2 W H' W' ∧ W'.tr = W.tr ∧
   W'.st = Vbahap.send W.st (((W.tr.take i).map (·.2)).filterMap gg) ∧ W'.ms.length ≤ W.ms.length + i) ?_ ?_ ?_ ?_⟩
  ·refine ⟨none,W,rfl,aA.refl R2,rfl,?_,Nat.le_refl _⟩
   rw [List.take_zero]
   exact (G8 _).symm
  ·rintro i σ H' _ ⟨v,W',_,po,_⟩
   exact az.of (po.fr.keep D _ hD1 oD)
  ·rintro i y σ H' hi ⟨v,W',rfl,po,et,es,hms⟩
   obtain ⟨p,hp,rfl⟩:=dk hi
   have hpW : p ∈ W'.tr:=by rw [et]; exact List.mem_of_getElem? hp
   have hlt:=(List.getElem?_eq_some_iff.mp hp).1
   have hp2 : (W.tr.map (·.2))[i]? = some p.2:=by rw [List.getElem?_map,hp]; rfl
   have nx : ((W.tr.take (i + 1)).map (·.2)).filterMap gg = ((W.tr.take i).map (·.2)).filterMap gg ++ (gg p.2).toList:=by
    rw [List.map_take,List.map_take,Nw hp2]
   obtain ⟨dp,hpp⟩:=po.rep.b9 p hpW
   obtain ⟨dx',hI'⟩:=po.rep.inv
   rw [po.fr.adr.aI] at hI'
   refine ⟨_,rfl,p.1,A.aP,dp,_,_,rfl,hpp,T.bM,T.lp,qm _,_,rfl,p.1,A.aP,dp,_,_,rfl,hpp,T.bM,T.gx,ly _,_,_,rfl,rfl,_,rfl,c7 (fun c => ?_) (fun c => ?_)⟩
   ·have c1 : p.2.acked < p.2.version:=by have:=of_decide_eq_true c; omega
    refine ⟨_,rfl,W.aI,dx',_,rfl,hI',bR _ _ _ (by decide +kernel),_,rfl,W',p.1,p.2,?_,po.rep,hpW,by omega,fun H3 q R3 F3 => ?_⟩
    ·rw [po.fr.adr.aI] <;> rfl
    ·refine ⟨_,_,rfl,po.trans ⟨R3,F3,gn _ _ _⟩,et,?_,?_⟩
     ·rw [Wd.fq,es,ui,nx]
      congr 2
      unfold gg
      rw [if_pos c1]
      rfl
     ·show (W'.ms ++ [_]).length ≤ _
      rw [List.length_append,List.length_singleton]
      omega
   ·have c1 : ¬ p.2.acked < p.2.version:=fun z => c (decide_eq_true (by omega))
    refine ⟨_,W',rfl,po,et,?_,by omega⟩
    rw [es,nx]
    have : gg p.2 = none:=by unfold gg; rw [if_neg c1]
    rw [this]
    show _ = Vbahap.send W.st (_ ++ [])
    rw [List.append_nil]
  ·rintro σ H' ⟨v,W',rfl,po,et,es,hms⟩
   have e2 : (refs W.tr).length = W.tr.length:=by unfold refs; rw [List.length_map]
   rw [e2,List.take_length] at es
   exact k H' W' (aA.pre s2 po) es
end
end Sh
end
section
namespace Sh
open PySem PySem.Spec PyProof.Rows L2
open Vbahap (State Truth View Flight Msg)
theorem mH {W : Wd} {p : Addr × View} (h : p ∈ W.vw) : p.2 ∈ W.st.views:=List.mem_map.mpr ⟨p,h,rfl⟩
theorem FY {W : Wd} (g : Good W.st) : W.vw.length ≤ 40:=by
 have:=g.vl
 rw [abh] at this
 exact this
section
variable {P : Program} {w : World} {K : PySem.W.Frag} {mg : Str → Option Value} {base : Heap} {A : Ad}
def U2 (A : Ad) : Sp:=fun vs H Q _ => ∃ (p dx : Addr) (t : View),vs = [.ref p,.int t.r,.int t.no,.int t.f,.int t.n] ∧ t.cancel = false ∧ t.seen = 0 ∧ t.status = 0 ∧ H p = some (.ins A.aV dx []) ∧
 ∀ H' : Hp,cq H' p A.aV (cD t) → (∀ b o,H b = some o → b ≠ p → H' b = some o) → Q .aC H'
theorem Yc (T : Txt w.params K mg A) : aE P w K mg base aQ 1 A.gK A.rF ["self","r","no","f","seats"] (U2 A):=by
 have nd:=HX.nd
 refine T.Fl.ok HX (fun vs H Q E h => ?_) (fun cdv AA outer s H vs Q E hr h => ?_)
 ·obtain ⟨p,dx,t,rfl,hv,hk,hs,hp,k⟩:=h
  rfl
 ·obtain ⟨p,dx,t,rfl,hv,hk,hs,hp,k⟩:=h
  have hu:=aZ hr
  refine ⟨_,(au (bQ (pv 0) (pv 1) rfl)
   (au (bQ (pv 0) (pv 2) rfl)
   (au (bQ (pv 0) (pv 3) rfl)
   (au (bQ (pv 0) (pv 4) rfl)
   (au (bQ (pv 0) jC rfl)
   (au (bQ (pv 0) ay rfl)
   (ah (bQ (pv 0) (bg T.QF) rfl)))))))),?_⟩
  refine ⟨_,rfl,_,rfl,p,A.aV,dx,_,rfl,hp,T.bP,T.nN,Nat.zero_lt_succ _,?_⟩
  rw [cn]
  refine ⟨_,rfl,_,rfl,p,A.aV,dx,_,rfl,af,T.bP,T.p7,lt1000 (by simp only [List.length_cons,List.length_nil]; decide),?_⟩
  rw [cZ,aL (by decide +kernel) cn]
  refine ⟨_,rfl,_,rfl,p,A.aV,dx,_,rfl,af,T.bP,T.nO,lt1000 (by simp only [List.length_cons,List.length_nil]; decide),?_⟩
  rw [cZ,aL (by decide +kernel) (aL (by decide +kernel) cn)]
  refine ⟨_,rfl,_,rfl,p,A.aV,dx,_,rfl,af,T.bP,T.nM,lt1000 (by simp only [List.length_cons,List.length_nil]; decide),?_⟩
  rw [cZ,aL (by decide +kernel) (aL (by decide +kernel) (aL (by decide +kernel) cn))]
  refine ⟨_,rfl,p,A.aV,dx,_,rfl,af,T.bP,T.lh,lt1000 (by simp only [List.length_cons,List.length_nil]; decide),?_⟩
  rw [cZ,aL (by decide +kernel) (aL (by decide +kernel) (aL (by decide +kernel) (aL (by decide +kernel) cn)))]
  refine ⟨_,rfl,p,A.aV,dx,_,rfl,af,T.bP,T.gw,lt1000 (by simp only [List.length_cons,List.length_nil]; decide),?_⟩
  rw [cZ,aL (by decide +kernel) (aL (by decide +kernel) (aL (by decide +kernel) (aL (by decide +kernel) (aL (by decide +kernel) cn))))]
  refine ⟨_,rfl,p,A.aV,dx,_,rfl,af,T.bP,T.lj,lt1000 (by simp only [List.length_cons,List.length_nil]; decide),?_⟩
  rw [cZ,aL (by decide +kernel) (aL (by decide +kernel) (aL (by decide +kernel) (aL (by decide +kernel) (aL (by decide +kernel) (aL (by decide +kernel) cn)))))]
  refine k _ ⟨dx,?_⟩ fun b o e hb => ?_
  ·rw [af]
   unfold cD
   rw [hv,hk,hs]
   rfl
  ·rw [ag hb]
   exact e
def U1 (A : Ad) : Sp:=fun vs H Q _ => ∃ (W : Wd) (a : Addr) (t : View),vs = [.ref W.aR,.ref a] ∧ Rep A.toCs H W ∧ (a,t) ∈ W.vw ∧ W.ms.length < sizeLine ∧
 ∀ (H' : Hp) (p : Addr),Rep A.toCs H' (W.push p (.ask t.r t.no t.f t.n)) → aO H W H' (W.push p (.ask t.r t.no t.f t.n)) → Q .aC H'
theorem KP (T : Txt w.params K mg A) : aE P w K mg base aQ 2 A.gJ A.rE ["self","sale"] (U1 A):=by
 have nd:=HW.nd
 have kj:=ny (P:=P) (w:=w) (base:=base) T
 refine T.Fj.ok HW (fun vs H Q E h => ?_) (fun cdv AA outer s H vs Q E hr h => ?_)
 ·obtain ⟨W,a,t,rfl,R,hm,hl,k⟩:=h
  rfl
 ·obtain ⟨W,a,t,rfl,R,hm,hl,k⟩:=h
  have jL : aq 1 _:=hr.mono (by decide)
  have hu:=aZ hr
  refine ⟨_,(ah (bB (bh (ai (pv 0) rfl) T.bW T.mm kj jL T.oo .nil aB (aa (dJ (aa (bg T.Dn) (aa (ai (pv 1) rfl) (aa (ai (pv 1) rfl) (aa (ai (pv 1) rfl) (aa (ai (pv 1) rfl) ae)))))) ae)))),?_⟩
  obtain ⟨dx,hI⟩:=R.res
  obtain ⟨dn,hN⟩:=R.net
  obtain ⟨da,ha⟩:=R.cv _ hm
  refine ⟨_,rfl,W.aR,A.bw,dx,_,_,rfl,hI,T.cF,T.l6,qi _ _,W.aN,dn,_,rfl,hN,dY _ _ (by decide +kernel),
   _,rfl,a,A.aV,da,_,_,rfl,ha,T.bP,T.nN,xh _,
   _,rfl,a,A.aV,da,_,_,rfl,ha,T.bP,T.p7,Lq _,
   _,rfl,a,A.aV,da,_,_,rfl,ha,T.bP,T.nO,xi _,
   _,rfl,a,A.aV,da,_,_,rfl,ha,T.bP,T.nM,xg _,
   (by show 5 ≤ sizeLine; decide),fun p hp => ?_⟩
  refine ⟨W,p,.ask t.r t.no t.f t.n,rfl,R.same (aU hp),af,hl,fun H' R' F' => ?_⟩
  exact k H' p R' ((aO.same (aU hp)).trans F')
def U0 (A : Ad) : Sp:=fun vs H Q _ => ∃ (W : Wd) (a : Addr) (t : View),vs = [.ref W.aR,.ref a] ∧ Rep A.toCs H W ∧ (a,t) ∈ W.vw ∧ W.ms.length < sizeLine ∧
 ∀ (H' : Hp) (p : Addr),Rep A.toCs H' (W.push p (.can t.r t.no)) → aO H W H' (W.push p (.can t.r t.no)) → Q .aC H'
theorem KO (T : Txt w.params K mg A) : aE P w K mg base aQ 2 A.gI A.rD ["self","sale"] (U0 A):=by
 have nd:=HV.nd
 have kj:=ny (P:=P) (w:=w) (base:=base) T
 refine T.Fi.ok HV (fun vs H Q E h => ?_) (fun cdv AA outer s H vs Q E hr h => ?_)
 ·obtain ⟨W,a,t,rfl,R,hm,hl,k⟩:=h
  rfl
 ·obtain ⟨W,a,t,rfl,R,hm,hl,k⟩:=h
  have jL : aq 1 _:=hr.mono (by decide)
  have hu:=aZ hr
  refine ⟨_,(ah (bB (bh (ai (pv 0) rfl) T.bW T.mm kj jL T.oo .nil aB (aa (dJ (aa (bg T.Dk) (aa (ai (pv 1) rfl) (aa (ai (pv 1) rfl) ae)))) ae)))),?_⟩
  obtain ⟨dx,hI⟩:=R.res
  obtain ⟨dn,hN⟩:=R.net
  obtain ⟨da,ha⟩:=R.cv _ hm
  refine ⟨_,rfl,W.aR,A.bw,dx,_,_,rfl,hI,T.cF,T.l6,qi _ _,W.aN,dn,_,rfl,hN,dY _ _ (by decide +kernel),
   _,rfl,a,A.aV,da,_,_,rfl,ha,T.bP,T.nN,xh _,
   _,rfl,a,A.aV,da,_,_,rfl,ha,T.bP,T.p7,Lq _,
   (by show 3 ≤ sizeLine; decide),fun p hp => ?_⟩
  refine ⟨W,p,.can t.r t.no,rfl,R.same (aU hp),af,hl,fun H' R' F' => ?_⟩
  exact k H' p R' ((aO.same (aU hp)).trans F')
def eK (r : Nat) (v : View) : Bool:=v.r == r
def UU (A : Ad) : Sp:=fun vs H Q _ => ∃ (W : Wd) (r f n : Nat),vs = [.ref W.aR,.int r,.int f,.int n] ∧ Rep A.toCs H W ∧ Good W.st ∧ W.ms.length < sizeLine ∧
 ∀ (H' : Hp) (W' : Wd),aA A.toCs H W H' W' → W'.st = Vbahap.send { W.st with views:=W.st.views ++ [{ r:=r,no:=(W.st.views.filter fun w => w.r == r).length + 1,f:=f,n:=n,cancel:=false,seen:=0,status:=0 }] } [.ask r ((W.st.views.filter fun w => w.r == r).length + 1) f n] →
  Q (.int (((W.st.views.filter fun w => w.r == r).length + 1 : Nat) : Int)) H'
theorem X7 (T : Txt w.params K mg A) : aE P w K mg base aQ 3 A.gD A.rq ["self","r","f","seats"] (UU A):=by
 have nd:=HP.nd
 have afe:=Yc (P:=P) (w:=w) (base:=base) T
 have E5:=KP (P:=P) (w:=w) (base:=base) T
 refine T.Fd.ok HP (fun vs H Q E h => ?_) (fun cdv AA outer s H vs Q E hr h => ?_)
 ·obtain ⟨W,r,f,n,rfl,R,g,hl,k⟩:=h
  rfl
 ·obtain ⟨W,r,f,n,rfl,R,g,hl,k⟩:=h
  have ab0 : aq 2 _:=hr.mono (by decide)
  have AV : aq 2 _:=hr.mono (by decide)
  have hu:=aZ hr
  refine ⟨_,(au (bI (i:=4) nd rfl (Or.inl rfl) (cW jD (dB fZ (by rfl) T.dX PySem.boot_len (aa (Kh (m9 (own:=[("sale",5)]) rfl nd (Kd (ai (pv 0) rfl)) (oh (N:=["self","r","f","seats","no","sale"]) (sc:=ab gj) (by decide +kernel)) (fun _ _ _ _ _ => ck (i:=5) nd rfl (Or.inl rfl)) (fun _ _ _ _ _ => IP (bz eA (pb (K:=K) rfl (pv 5) (by rfl)) (pv 1) (bp _))) (fun _ _ _ _ _ => (pv 5)))) ae)) ay))
   (au (bI (i:=5) nd rfl (Or.inl rfl) (m8 T.me afe ab0 rfl T.Ni T.aes .nil aB (aa (pv 1) (aa (pv 4) (aa (pv 2) (aa (pv 3) ae))))))
   (au (uB hu (ai (pv 0) rfl) (dJ (aa (pv 1) (aa (pv 4) ae))) (pv 5) rfl)
   (au (bB (bh (pv 0) T.cF T.wZ E5 AV T.Q6 .nil aB (aa (pv 5) ae)))
   (ah (aT (pv 4))))))),?_⟩
  have hV:=FY g
  obtain ⟨dx,hI⟩:=R.res
  refine ⟨W.aS,_,R.bD,trivial,fun od => ?_⟩
  have hI0 : upd H W.aS (.a7 od (.dT (bK W.vw))) W.aR = some (.ins A.bw dx (ky W.aN W.aS)):=bq hI R.bD (by show (["net","sales"] : List Str) ≠ (["d"] : List Str); decide +kernel)
  refine ⟨_,rfl,W.aR,A.bw,dx,_,_,rfl,hI0,T.cF,T.gv,kF _ _,W.aS,od,_,rfl,af,fun D hD => ?_⟩
  obtain ⟨nDK,hD0⟩:=kr hD
  refine Lz (fun i H' => H' = upd (upd H W.aS (.a7 od (.dT (bK W.vw)))) D (.lst (refs ((W.vw.take i).filter fun p => eK r p.2)))) rfl (fun i H' _ e => ?_) (fun i kk x H' hi e => ?_) (fun H' e => ?_)
  ·subst e
   rw [ag nDK.symm]
   exact af
  ·subst e
   obtain ⟨p,hp,ex⟩ : ∃ p,W.vw[i]? = some p ∧ x = V.ref p.1:=by
    have hi' : (W.vw.map fun p => (bE p.2.r p.2.no,V.ref p.1))[i]? = some (kk,x):=hi
    rw [List.getElem?_map] at hi'
    cases e : W.vw[i]? with
    | none => rw [e] at hi'; cases hi'
    | some p => rw [e] at hi'; exact ⟨p,rfl,(congrArg Prod.snd (Option.some.inj hi')).symm⟩
   subst ex
   have hm : p ∈ W.vw:=List.mem_of_getElem? hp
   obtain ⟨dp,hpp⟩:=R.cv p hm
   have n1 : p.1 ≠ W.aS:=cz hpp R.bD (by show (["r","no","f","seats","unwanted","seen","stood"] : List Str) ≠ (["d"] : List Str); decide +kernel)
   have n2 : p.1 ≠ D:=bj hpp hD0
   have hp0 : upd (upd H W.aS (.a7 od (.dT (bK W.vw)))) D (.lst (refs ((W.vw.take i).filter fun p => eK r p.2))) p.1 = some (.ins A.aV dp (cD p.2)):=by
    rw [ag n2,ag n1]
    exact hpp
   have nx : (W.vw.take (i + 1)).filter (fun p => eK r p.2) = (W.vw.take i).filter (fun p => eK r p.2) ++ [p].filter fun p => eK r p.2:=by
    rw [take_snoc hp,List.filter_append]
   refine ⟨rfl,?_⟩
   refine ⟨_,rfl,p.1,A.aV,dp,_,_,rfl,hp0,T.bP,T.nN,xh _,_,rfl,rfl,_,rfl,?_⟩
   rw [ie]
   refine c7 (fun c => ?_) (fun c => ?_)
   ·have c1 : p.2.r = r:=of_decide_eq_true c
    refine ⟨_,rfl,_,af,?_,?_⟩
    ·unfold refs
     rw [List.length_map]
     have h1:=List.length_filter_le (fun p : Addr × View => eK r p.2) (W.vw.take i)
     have h2 : (W.vw.take i).length ≤ i:=List.length_take_le _ _
     have h3 : i < W.vw.length:=(List.getElem?_eq_some_iff.mp hp).1
     rw [sizeLine_eq]
     omega
    ·rw [cZ,nx,List.filter_cons,if_pos (by unfold eK; simp [c1]),List.filter_nil]
     unfold refs
     rw [List.map_append]
     rfl
   ·have c1 : ¬ p.2.r = r:=fun z => c (decide_eq_true z)
    rw [nx,List.filter_cons,if_neg (by unfold eK; simp [c1]),List.filter_nil,List.append_nil]
  ·have e' : H' = upd (upd H W.aS (.a7 od (.dT (bK W.vw)))) D (.lst (refs (W.vw.filter fun p => eK r p.2))):=by
    rw [e]
    unfold bK
    rw [List.length_map,List.take_length]
   subst e'
   refine ⟨by rw [ag nDK.symm]; exact af,?_⟩
   rw [F8 R.bD nDK]
   have el : (refs (W.vw.filter fun p => eK r p.2)).length = (W.st.views.filter fun w => w.r == r).length:=by
    unfold refs Wd.st
    simp only [List.filter_map,List.length_map]
    rfl
   refine ⟨D,_,rfl,.inl (az.of af),_,_,rfl,rfl,?_⟩
   rw [el]
   generalize hno : (W.st.views.filter fun w => w.r == r).length = c0 at k ⊢
   have s1 : ao H (upd H D (.lst (refs (W.vw.filter fun p => eK r p.2)))):=aU hD0
   have R1:=R.same s1
   generalize upd H D (.lst (refs (W.vw.filter fun p => eK r p.2))) = H1 at s1 R1 ⊢
   have en : ((c0 : Nat) : Int) + 1 = ((c0 + 1 : Nat) : Int):=by omega
   dsimp only
   rw [en]
   let t : View:={ r:=r,no:=c0 + 1,f:=f,n:=n,cancel:=false,seen:=0,status:=0 }
   refine ⟨_,rfl,_,rfl,_,rfl,_,rfl,fun x dx2 nx ndx nex => ?_⟩
   refine ⟨x,dx2,t,rfl,rfl,rfl,rfl,af,fun H2 h2 k2 => ⟨rfl,?_⟩⟩
   have s2 : ao H1 H2:=ao.made nx ndx k2
   have R2:=R1.same s2
   obtain ⟨di,hI2⟩:=R2.res
   refine ⟨_,rfl,_,rfl,W.aR,A.bw,di,_,_,rfl,hI2,T.cF,T.gv,kF _ _,_,rfl,_,rfl,(by show 2 ≤ sizeLine; decide),fun q hq => ?_⟩
   have s3 : ao H2 (upd H2 q (.tup [.int r,.int ((c0 + 1 : Nat) : Int)])):=aU hq
   have R3:=R2.same s3
   have hv : bX (bK W.vw) (bE r (c0 + 1)) = none:=by
    rcases qh W.vw r (c0 + 1) with ⟨p,hp,e1,e2,_⟩ | ⟨e,_⟩
    ·exact absurd e2 (by rw [← hno]; exact K0 g (mH hp) e1)
    ·exact e
   refine ⟨W.aS,_,rfl,kq.t (k:=bE r (c0 + 1)) R3.bD af (by unfold bK; rw [List.length_map,sizeLine_eq]; omega),?_⟩
   rw [uz _ hv]
   have h3 : cq (upd H2 q (.tup [.int r,.int ((c0 + 1 : Nat) : Int)])) x A.aV (cD t):=by
    obtain ⟨d,h⟩:=h2
    exact ⟨d,s3 _ _ h⟩
   have nxH : H x = none:=s1.free nx
   have R4:=R3.kc (u:=t) (fun p hp e => by
    obtain ⟨d,h⟩:=R.cv p hp
    rw [e,nxH] at h
    cases h) h3
   have F4 : aO H W _ (W.kc x t):=aO.kc (u:=t) (o:=.dT (bK W.vw ++ [(bE t.r t.no,V.ref x)])) ((aO.same (s1.trans s2)).trans (aO.same s3)) nxH
   obtain ⟨d4,hI4⟩:=R4.res
   refine ⟨_,rfl,W.aR,d4,_,rfl,hI4,jG _ _ (by decide +kernel),_,rfl,W.kc x t,x,t,rfl,R4,List.mem_append_right _ List.mem_cons_self,hl,fun H5 p R5 F5 => ?_⟩
   refine ⟨_,rfl,k H5 _ ⟨R5,F4.trans F5,gn _ _ _⟩ ?_⟩
   rw [Wd.fq,Wd.aeT]
def UZ (A : Ad) : Sp:=fun vs H Q _ => ∃ (W : Wd) (a : Addr) (t : View),vs = [.ref W.aR,.ref a] ∧ Rep A.toCs H W ∧ Good W.st ∧ (a,t) ∈ W.vw ∧ W.ms.length < sizeLine ∧
 ∀ (H' : Hp) (W' : Wd),aA A.toCs H W H' W' → W'.st = Vbahap.send { W.st with views:=W.st.views.map fun x => if x.r = t.r ∧ x.no = t.no then { x with cancel:=true } else x } [.can t.r t.no] → Q .aC H'
theorem Yb (T : Txt w.params K mg A) : aE P w K mg base aQ 3 A.gH A.rC ["self","sale"] (UZ A):=by
 have nd:=HU.nd
 have E4:=KO (P:=P) (w:=w) (base:=base) T
 refine T.Fh.ok HU (fun vs H Q E h => ?_) (fun cdv AA outer s H vs Q E hr h => ?_)
 ·obtain ⟨W,a,t,rfl,R,g,hm,hl,k⟩:=h
  rfl
 ·obtain ⟨W,a,t,rfl,R,g,hm,hl,k⟩:=h
  have AU : aq 2 _:=hr.mono (by decide)
  have hu:=aZ hr
  refine ⟨_,(au (bQ (pv 1) jC rfl)
   (ah (bB (bh (pv 0) T.cF T.wY E4 AU T.Q5 .nil aB (aa (pv 1) ae))))),?_⟩
  obtain ⟨da,ha⟩:=R.cv _ hm
  refine ⟨_,rfl,a,A.aV,da,_,rfl,ha,T.bP,T.lh,(by show 7 < 1000; decide),?_⟩
  rw [Xm]
  obtain ⟨R1,F1⟩:=R.fh (u:={ t with cancel:=true }) hm rfl ha
  obtain ⟨dx,hI⟩:=R1.res
  refine ⟨_,rfl,W.aR,dx,_,rfl,hI,jG _ _ (by decide +kernel),_,rfl,W.fh a { t with cancel:=true },a,{ t with cancel:=true },rfl,R1,List.mem_map.mpr ⟨_,hm,if_pos rfl⟩,hl,fun H' p R' F' => ?_⟩
  refine k H' _ ⟨R',F1.trans F',gn _ _ _⟩ ?_
  have e2:=G5 (u:={ t with cancel:=true }) R.dQ g.vk hm rfl
  rw [Wd.fq,e2]
  have e3 : (W.st.views.map fun x => if x.r = t.r ∧ x.no = t.no then { t with cancel:=true } else x) = W.st.views.map fun x => if x.r = t.r ∧ x.no = t.no then { x with cancel:=true } else x:=by
   refine List.map_congr_left fun x hx => ?_
   by_cases c : x.r = t.r ∧ x.no = t.no
   ·have e : x = t:=fw g.vk hx (mH hm) (Prod.ext c.1 c.2)
    rw [if_pos c,if_pos c,e]
   ·rw [if_neg c,if_neg c]
  rw [← e3]
def UY (A : Ad) : Sp:=fun vs H Q _ => ∃ (W : Wd) (r no v s : Nat),vs = [.ref W.aR,.int r,.int no,.int v,.int s] ∧ Rep A.toCs H W ∧ Good W.st ∧ dy W.st r no ∧ W.ms.length < sizeLine ∧
 ∀ (H' : Hp) (W' : Wd),aA A.toCs H W H' W' → W'.st = Vbahap.receive W.st (.st r no v s) → Q .aC H'
theorem Ya (T : Txt w.params K mg A) : aE P w K mg base aQ 2 A.gG A.rB ["self","r","no","version","stands"] (UY A):=by
 have nd:=HS.nd
 have kj:=ny (P:=P) (w:=w) (base:=base) T
 refine T.Fg.ok HS (fun vs H Q E h => ?_) (fun cdv AA outer s H vs Q E hr h => ?_)
 ·obtain ⟨W,r,no,v,s0,rfl,R,g,hv0,hl,k⟩:=h
  rfl
 ·obtain ⟨W,r,no,v,s0,rfl,R,g,hv0,hl,k⟩:=h
  have jL : aq 1 _:=hr.mono (by decide)
  have hu:=aZ hr
  refine ⟨_,(au (bI (i:=5) nd rfl (Or.inl rfl) (kD hu (ai (pv 0) rfl) (dJ (aa (pv 1) (aa (pv 2) ae))) (fun _ _ => rfl)))
   (au (bo (bz nu (pv 3) (ai (pv 5) rfl) (bp _)) (au (bQ (pv 5) (pv 3) rfl)
   (ah (bQ (pv 5) (pv 4) rfl))) bH)
   (ah (bB (bh (ai (pv 0) rfl) T.bW T.mm kj jL T.oo .nil aB (aa (dJ (aa (bg T.Dr) (aa (pv 1) (aa (pv 2) (aa (ai (pv 5) rfl) ae))))) ae)))))),?_⟩
  obtain ⟨dx,hI⟩:=R.res
  obtain ⟨t0,ht0⟩:=hv0.view
  rcases qh W.vw r no with ⟨p,hp,hr,hno,hv,hs⟩ | ⟨hv,hs⟩
  ·have ht : Vbahap.viewOf W.st r no = some p.2:=hs
   have er : Vbahap.receive W.st (.st r no v s0) = Vbahap.send { W.st with views:=W.st.views.map fun x => if x.r = r ∧ x.no = no then (if p.2.seen < v then { p.2 with seen:=v,status:=s0 } else p.2) else x } [.ack r no (if p.2.seen < v then ({ p.2 with seen:=v,status:=s0 } : View) else p.2).seen]:=by
    show (match Vbahap.viewOf W.st r no with | none => W.st | some w => Vbahap.send { W.st with views:=W.st.views.map fun x : View => if x.r = r ∧ x.no = no then (if w.seen < v then ({ w with seen:=v,status:=s0 } : View) else w) else x } [.ack r no (if w.seen < v then ({ w with seen:=v,status:=s0 } : View) else w).seen]) = _
    rw [ht]
   refine ⟨_,rfl,W.aR,A.bw,dx,_,_,rfl,hI,T.cF,T.gv,kF _ _,_,rfl,_,rfl,(by show 2 ≤ sizeLine; decide),fun q hq => ?_⟩
   have s1 : ao H (upd H q (.tup [.int r,.int no])):=aU hq
   have gd : bL (upd H q (.tup [.int r,.int no])) W.aS (.ref q) (bX (bK W.vw) (bE r no)):=bL.t (k:=bE r no) (s1 _ _ R.bD) af
   have R1:=R.same s1
   generalize upd H q (.tup [.int r,.int no]) = H1 at s1 gd R1 ⊢
   rw [hv] at gd
   refine ⟨W.aS,_,rfl,gd,?_⟩
   obtain ⟨dp,hpp⟩:=R1.cv p hp
   have fin : ∀ (H2 : Hp) (W2 : Wd) (u : View),aA A.toCs H1 W H2 W2 → (p.1,u) ∈ W2.vw → W2.ms = W.ms → Vbahap.receive W.st (.st r no v s0) = Vbahap.send W2.st [.ack r no u.seen] → (∀ Hx Wx,aA A.toCs H2 W2 Hx Wx → Wx.st = Vbahap.send W2.st [.ack r no u.seen] → Q .aC Hx):=fun H2 W2 u po hu em es Hx Wx pox esx =>
    k Hx Wx (aA.pre s1 (po.trans pox)) (esx.trans es.symm)
   refine ⟨_,rfl,_,rfl,p.1,A.aV,dp,_,_,rfl,hpp,T.bP,T.gw,lx _,_,_,rfl,rfl,_,rfl,c7 (fun c => ?_) (fun c => ?_)⟩
   ·have c1 : p.2.seen < v:=by have:=of_decide_eq_true c; omega
    refine ⟨_,rfl,_,rfl,p.1,A.aV,dp,_,rfl,hpp,T.bP,T.gw,(by show 7 < 1000; decide),?_⟩
    rw [Xo]
    refine ⟨_,rfl,_,rfl,p.1,A.aV,dp,_,rfl,af,T.bP,T.lj,(by show 7 < 1000; decide),?_⟩
    rw [Xn,cZ]
    obtain ⟨R2,F2⟩:=R1.fh (u:={ p.2 with seen:=v,status:=s0 }) hp rfl hpp
    have hu : (p.1,{ p.2 with seen:=v,status:=s0 }) ∈ (W.fh p.1 { p.2 with seen:=v,status:=s0 }).vw:=List.mem_map.mpr ⟨p,hp,if_pos rfl⟩
    obtain ⟨d2,hp2⟩:=R2.cv _ hu
    obtain ⟨dr2,hR2⟩:=R2.res
    obtain ⟨dn2,hN2⟩:=R2.net
    refine ⟨_,rfl,W.aR,A.bw,dr2,_,_,rfl,hR2,T.cF,T.l6,qi _ _,W.aN,dn2,_,rfl,hN2,dY _ _ (by decide +kernel),_,rfl,_,rfl,_,rfl,p.1,A.aV,d2,_,_,rfl,hp2,T.bP,T.gw,lx _,(by show 4 ≤ sizeLine; decide),fun q2 hq2 => ?_⟩
    refine ⟨W.fh p.1 { p.2 with seen:=v,status:=s0 },q2,.ack r no v,rfl,R2.same (aU hq2),af,hl,fun H3 R3 F3 => ?_⟩
    refine fin _ (W.fh p.1 { p.2 with seen:=v,status:=s0 }) { p.2 with seen:=v,status:=s0 } ⟨R2,F2,rfl⟩ hu rfl ?_ H3 _ (aA.pre (aU hq2) ⟨R3,F3,gn _ _ _⟩) (Wd.fq _ _ _)
    have e2:=G5 (u:={ p.2 with seen:=v,status:=s0 }) R.dQ g.vk hp rfl
    rw [er,e2,if_pos c1]
    show Vbahap.send _ _ = Vbahap.send { W.st with views:=W.st.views.map fun x : View => if x.r = p.2.r ∧ x.no = p.2.no then { p.2 with seen:=v,status:=s0 } else x } [.ack r no v]
    rw [hr,hno]
   ·have c1 : ¬ p.2.seen < v:=fun z => c (decide_eq_true (by omega))
    obtain ⟨dr2,hR2⟩:=R1.res
    obtain ⟨dn2,hN2⟩:=R1.net
    refine ⟨_,rfl,W.aR,A.bw,dr2,_,_,rfl,hR2,T.cF,T.l6,qi _ _,W.aN,dn2,_,rfl,hN2,dY _ _ (by decide +kernel),_,rfl,_,rfl,_,rfl,p.1,A.aV,dp,_,_,rfl,hpp,T.bP,T.gw,lx _,(by show 4 ≤ sizeLine; decide),fun q2 hq2 => ?_⟩
    refine ⟨W,q2,.ack r no p.2.seen,rfl,R1.same (aU hq2),af,hl,fun H3 R3 F3 => ?_⟩
    refine fin H1 W p.2 (aA.refl R1) hp rfl ?_ H3 _ (aA.pre (aU hq2) ⟨R3,F3,gn _ _ _⟩) (Wd.fq _ _ _)
    rw [er,if_neg c1]
    congr 1
    have e : (W.st.views.map fun x => if x.r = r ∧ x.no = no then p.2 else x) = W.st.views:=by
     conv => rhs; rw [← List.map_id W.st.views]
     refine List.map_congr_left fun x hx => ?_
     by_cases c : x.r = r ∧ x.no = no
     ·rw [if_pos c]
      exact (fw g.vk hx (mH hp) (Prod.ext (by show x.r = p.2.r; omega) (by show x.no = p.2.no; omega))).symm
     ·rw [if_neg c]
      rfl
    rw [e]
  ·have e : none = some t0:=hs.symm.trans ht0
   cases e
def dI (w : View) : Option Msg:=if w.cancel = true ∧ Vbahap.final w.status = false then some (.can w.r w.no) else if w.seen = 0 then some (.ask w.r w.no w.f w.n) else none
def UW (A : Ad) : Sp:=fun vs H Q _ => ∃ (W : Wd),vs = [.ref W.aR] ∧ Rep A.toCs H W ∧ Good W.st ∧ W.ms.length + 100 < sizeLine ∧
 ∀ (H' : Hp) (W' : Wd),aA A.toCs H W H' W' → W'.st = Vbahap.send W.st (W.st.views.filterMap dI) → W'.ms.length ≤ W.ms.length + 40 → Q .aC H'
theorem X8 (T : Txt w.params K mg A) : aE P w K mg base aQ 3 A.gE A.rz ["self"] (UW A):=by
 have nd:=HQ.nd
 have E5:=KP (P:=P) (w:=w) (base:=base) T
 have E4:=KO (P:=P) (w:=w) (base:=base) T
 have ki:=nv (P:=P) (w:=w) (base:=base) T
 refine T.Fe.ok HQ (fun vs H Q E h => ?_) (fun cdv AA outer s H vs Q E hr h => ?_)
 ·obtain ⟨W,rfl,R,g,hl,k⟩:=h
  rfl
 ·obtain ⟨W,rfl,R,g,hl,k⟩:=h
  have AV : aq 2 _:=hr.mono (by decide)
  have AU : aq 2 _:=hr.mono (by decide)
  have jK : aq 1 _:=hr.mono (by decide)
  have hu:=aZ hr
  refine ⟨_,(ah (dz PassesOwn.never rfl (fu (nh (CO rfl) (by rfl) T.qe Ds (aa (uS (ai (pv 0) rfl)) ae))) (ck (i:=1) nd rfl (Or.inl rfl))
   (ah (bo (PW.pt (mZ (de (ai (pv 1) rfl)) (mY (gp (de (cw ki jK rfl T.mK T.kZ.kp T.om .nil aB (aa (ai (pv 1) rfl) ae))))))) (ah (bB (bh (pv 0) T.cF T.wY E4 AU T.Q5 .nil aB (aa (pv 1) ae)))) (ah (bo (bz eA (ai (pv 1) rfl) ay (bp _)) (ah (bB (bh (pv 0) T.cF T.wZ E5 AV T.Q6 .nil aB (aa (pv 1) ae)))) bH)))))),?_⟩
  obtain ⟨dx,hI⟩:=R.res
  have hT:=FY g
  refine ⟨_,rfl,W.aR,A.bw,dx,_,_,rfl,hI,T.cF,T.gv,kF _ _,_,_,rfl,.inl R.bD,fun p hp => ⟨p,_,_,rfl,af,.inl (aU hp _ _ R.bD),fun D hD => ?_⟩⟩
  have s2 : ao H (upd (upd H p (dP p W.aS)) D (.lst ((bK W.vw).map (·.2)))):=(aU hp).trans (aU hD)
  have eL : (bK W.vw).map (·.2) = refs W.vw:=by unfold bK refs; rw [List.map_map]; rfl
  rw [eL] at s2 ⊢
  have hDn : H D = none:=(kr hD).2
  have hD1 : upd (upd H p (dP p W.aS)) D (.lst (refs W.vw)) D = some (.lst (refs W.vw)):=af
  have R2:=R.same s2
  have oD : ¬ W.foot D:=R.kN hDn
  generalize upd (upd H p (dP p W.aS)) D (.lst (refs W.vw)) = H2 at s2 hD1 R2 ⊢
  refine ⟨D,rfl,⟨_,az.of hD1⟩,jQ (K:=K) (a:=D) (xs:=refs W.vw) (fun i σ H' => ∃ (v : Option V) (W' : Wd),σ = [some (.ref W.aR),v] ∧ aA A.toCs H2 W H' W' ∧ W'.vw = W.vw ∧
   W'.st = Vbahap.send W.st (((W.vw.take i).map (·.2)).filterMap dI) ∧ W'.ms.length ≤ W.ms.length + i) ?_ ?_ ?_ ?_⟩
  ·refine ⟨none,W,rfl,aA.refl R2,rfl,?_,Nat.le_refl _⟩
   rw [List.take_zero]
   exact (G8 _).symm
  ·rintro i σ H' _ ⟨v,W',_,po,_⟩
   exact az.of (po.fr.keep D _ hD1 oD)
  ·rintro i y σ H' hi ⟨v,W',rfl,po,et,es,hms⟩
   obtain ⟨p,hp,rfl⟩:=dk hi
   have hpW : p ∈ W'.vw:=by rw [et]; exact List.mem_of_getElem? hp
   have hpV : p ∈ W.vw:=List.mem_of_getElem? hp
   have hlt:=(List.getElem?_eq_some_iff.mp hp).1
   have hp2 : (W.vw.map (·.2))[i]? = some p.2:=by rw [List.getElem?_map,hp]; rfl
   have nx : ((W.vw.take (i + 1)).map (·.2)).filterMap dI = ((W.vw.take i).map (·.2)).filterMap dI ++ (dI p.2).toList:=by
    rw [List.map_take,List.map_take,Nw hp2]
   have vo:=g.vo p.2 (mH hpV)
   have said : ∀ (m : Msg) (H3 : Hp) (q : Addr) (H2' : Hp),ao H' H2' → dI p.2 = some m → Rep A.toCs H3 (W'.push q m) → aO H2' W' H3 (W'.push q m) →
    ∃ (v : Option V) (W'' : Wd),[some (V.ref W.aR),some (V.ref p.1)] = [some (V.ref W.aR),v] ∧ aA A.toCs H2 W H3 W'' ∧ W''.vw = W.vw ∧ W''.st = Vbahap.send W.st (((W.vw.take (i + 1)).map (·.2)).filterMap dI) ∧ W''.ms.length ≤ W.ms.length + (i + 1):=fun m H3 q H2' sm em R3 F3 => by
    refine ⟨_,_,rfl,(po.same sm).trans ⟨R3,F3,gn _ _ _⟩,et,?_,?_⟩
    ·rw [Wd.fq,es,ui,nx,em]
     rfl
    ·show (W'.ms ++ [_]).length ≤ _
     rw [List.length_append,List.length_singleton]
     omega
   have quiet : ∀ H3,ao H' H3 → dI p.2 = none → ∃ (v : Option V) (W'' : Wd),[some (V.ref W.aR),some (V.ref p.1)] = [some (V.ref W.aR),v] ∧ aA A.toCs H2 W H3 W'' ∧ W''.vw = W.vw ∧ W''.st = Vbahap.send W.st (((W.vw.take (i + 1)).map (·.2)).filterMap dI) ∧ W''.ms.length ≤ W.ms.length + (i + 1):=fun H3 s3 em => by
    refine ⟨_,W',rfl,po.same s3,et,?_,by omega⟩
    rw [es,nx,em]
    show _ = Vbahap.send W.st (_ ++ [])
    rw [List.append_nil]
   obtain ⟨dp,hpp⟩:=po.rep.cv p hpW
   refine ⟨_,rfl,p.1,A.aV,dp,_,_,rfl,hpp,T.bP,T.lh,qj _,_,rfl,?_⟩
   cases hc : p.2.cancel with
   | true =>
     refine bc ?_
     refine ⟨_,rfl,p.1,A.aV,dp,_,_,rfl,hpp,T.bP,T.lj,qk _,p.2.status,rfl,vo.st,fun H3 s3 => ⟨_,rfl,?_⟩⟩
     have po3:=po.same s3
     obtain ⟨dr3,hR3⟩:=po3.rep.res
     rw [po.fr.adr.aR] at hR3
     cases hf : Vbahap.final p.2.status with
     | false =>
       refine bc ?_
       refine ⟨_,rfl,W.aR,dr3,_,rfl,hR3,jG _ _ (by decide +kernel),_,rfl,W',p.1,p.2,?_,po3.rep,hpW,by omega,fun H4 q R4 F4 => ?_⟩
       ·rw [po.fr.adr.aR] <;> rfl
       ·exact said _ H4 q H3 s3 (by unfold dI; rw [if_pos ⟨hc,hf⟩]) R4 F4
     | true =>
       refine a8 ?_
       have hpp3:=s3 _ _ hpp
       refine ⟨_,rfl,p.1,A.aV,dp,_,_,rfl,hpp3,T.bP,T.gw,lx _,rfl,_,rfl,c7 (fun c => ?_) (fun c => ?_)⟩
       ·have c1 : p.2.seen = 0:=by
         have:=of_decide_eq_true c
         have:=V.int.inj this
         omega
        refine ⟨_,rfl,W.aR,dr3,_,rfl,hR3,jG _ _ (by decide +kernel),_,rfl,W',p.1,p.2,?_,po3.rep,hpW,by omega,fun H4 q R4 F4 => ?_⟩
        ·rw [po.fr.adr.aR] <;> rfl
        ·exact said _ H4 q H3 s3 (by unfold dI; rw [if_neg (by rw [hf]; simp),if_pos c1]) R4 F4
       ·have c1 : ¬ p.2.seen = 0:=fun z => c (decide_eq_true (by rw [z]; rfl))
        exact quiet H3 s3 (by unfold dI; rw [if_neg (by rw [hf]; simp),if_neg c1])
   | false =>
     refine a8 ?_
     refine a8 ?_
     obtain ⟨dr3,hR3⟩:=po.rep.res
     rw [po.fr.adr.aR] at hR3
     refine ⟨_,rfl,p.1,A.aV,dp,_,_,rfl,hpp,T.bP,T.gw,lx _,rfl,_,rfl,c7 (fun c => ?_) (fun c => ?_)⟩
     ·have c1 : p.2.seen = 0:=by
       have:=of_decide_eq_true c
       have:=V.int.inj this
       omega
      refine ⟨_,rfl,W.aR,dr3,_,rfl,hR3,jG _ _ (by decide +kernel),_,rfl,W',p.1,p.2,?_,po.rep,hpW,by omega,fun H4 q R4 F4 => ?_⟩
      ·rw [po.fr.adr.aR] <;> rfl
      ·exact said _ H4 q H' (ao.refl _) (by unfold dI; rw [if_neg (by rw [hc]; simp),if_pos c1]) R4 F4
     ·have c1 : ¬ p.2.seen = 0:=fun z => c (decide_eq_true (by rw [z]; rfl))
      exact quiet H' (ao.refl _) (by unfold dI; rw [if_neg (by rw [hc]; simp),if_neg c1])
  ·rintro σ H' ⟨v,W',rfl,po,et,es,hms⟩
   have e2 : (refs W.vw).length = W.vw.length:=by unfold refs; rw [List.length_map]
   rw [e2,List.take_length] at es
   exact k H' W' (aA.pre s2 po) es (by omega)
end
end Sh
end
section
namespace Sh
open PySem PySem.Spec PyProof.Rows L2
open Vbahap (State Truth View Flight Msg)
def mR (p : Addr) (H H' : Hp) : Prop:=∀ b o,H b = some o → b ≠ p → H' b = some o
theorem qf {H H1 : Hp} {x dx C : Addr} (nx : H x = none) (nd : H dx = none) (k : mR x (upd (upd H dx (.own x)) x (.ins C dx [])) H1) : ao H H1:=ao.made nx nd k
section
variable {P : Program} {w : World} {K : PySem.W.Frag} {mg : Str → Option Value} {base : Heap} {A : Ad}
def Vi (A : Ad) : Sp:=fun vs H Q _ => ∃ (p dx n : Addr),vs = [.ref p,.ref n] ∧ H p = some (.ins A.aG dx []) ∧
 ∀ (H' : Hp) (f k : Addr),cq H' p A.aG (gB n f k) → H f = none → H k = none → f ≠ k → H' f = some (.dK []) → H' k = some (.dT []) → mR p H H' → Q .aC H'
theorem Yk (T : Txt w.params K mg A) : aE P w K mg base aQ 1 A.g9 A.rY ["self","net"] (Vi A):=by
 have nd:=Ir.nd
 refine T.FE.ok Ir (fun vs H Q E h => ?_) (fun cdv AA outer s H vs Q E hr h => ?_)
 ·obtain ⟨p,dx,n,rfl,hp,k⟩:=h
  rfl
 ·obtain ⟨p,dx,n,rfl,hp,k⟩:=h
  have hu:=aZ hr
  refine ⟨_,(au (bQ (pv 0) (pv 1) rfl)
   (au (bQ (pv 0) XJ rfl)
   (ah (bQ (pv 0) Ki rfl)))),?_⟩
  refine ⟨_,rfl,_,rfl,p,A.aG,dx,_,rfl,hp,T.bb,T.wc,Nat.zero_lt_succ _,?_⟩
  rw [cn]
  intro f hf
  have npf : p ≠ f:=fun z => by rw [← z,af] at hf; cases hf
  have hfH : H f = none:=by rw [ag npf.symm] at hf; exact hf
  refine ⟨_,rfl,p,A.aG,dx,_,rfl,(by rw [ag npf]; exact af),T.bb,T.eC,lt1000 (by simp only [List.length_cons,List.length_nil]; decide),?_⟩
  rw [aL (by decide +kernel) cn]
  intro q hq
  have npq : p ≠ q:=fun z => by rw [← z,af] at hq; cases hq
  have nfq : f ≠ q:=fun z => by rw [← z,ag npf.symm,af] at hq; cases hq
  have hqH : H q = none:=by rw [ag npq.symm,ag nfq.symm,ag npq.symm] at hq; exact hq
  refine ⟨_,rfl,p,A.aG,dx,_,rfl,(by rw [ag npq]; exact af),T.bb,T.fA,lt1000 (by simp only [List.length_cons,List.length_nil]; decide),?_⟩
  rw [aL (by decide +kernel) (aL (by decide +kernel) cn)]
  refine k _ f q ⟨dx,af⟩ hfH hqH nfq ?_ ?_ fun b o e hb => ?_
  ·rw [ag npf.symm,ag nfq,ag npf.symm]
   exact af
  ·rw [ag npq.symm]
   exact af
  ·rw [ag hb,ag (bj e hqH),ag hb,ag (bj e hfH),ag hb]
   exact e
def UX (A : Ad) : Sp:=fun vs H Q _ => ∃ (p dx n : Addr),vs = [.ref p,.ref n] ∧ H p = some (.ins A.bw dx []) ∧
 ∀ (H' : Hp) (f : Addr),cq H' p A.bw (ky n f) → H f = none → H' f = some (.dT []) → mR p H H' → Q .aC H'
theorem X9 (T : Txt w.params K mg A) : aE P w K mg base aQ 1 A.gF A.rA ["self","net"] (UX A):=by
 have nd:=HR.nd
 refine T.Ff.ok HR (fun vs H Q E h => ?_) (fun cdv AA outer s H vs Q E hr h => ?_)
 ·obtain ⟨p,dx,n,rfl,hp,k⟩:=h
  rfl
 ·obtain ⟨p,dx,n,rfl,hp,k⟩:=h
  have hu:=aZ hr
  refine ⟨_,(au (bQ (pv 0) (pv 1) rfl)
   (ah (bQ (pv 0) Ki rfl))),?_⟩
  refine ⟨_,rfl,_,rfl,p,A.bw,dx,_,rfl,hp,T.cF,T.l6,Nat.zero_lt_succ _,?_⟩
  rw [cn]
  intro f hf
  have npf : p ≠ f:=fun z => by rw [← z,af] at hf; cases hf
  have hfH : H f = none:=by rw [ag npf.symm] at hf; exact hf
  refine ⟨_,rfl,p,A.bw,dx,_,rfl,(by rw [ag npf]; exact af),T.cF,T.gv,lt1000 (by simp only [List.length_cons,List.length_nil]; decide),?_⟩
  rw [aL (by decide +kernel) cn]
  refine k _ f ⟨dx,af⟩ hfH ?_ fun b o e hb => ?_
  ·rw [ag npf.symm]
   exact af
  ·rw [ag hb,ag (bj e hfH),ag hb]
   exact e
def Vq (A : Ad) : Sp:=fun vs H Q _ => ∃ (p dx : Addr),vs = [.ref p] ∧ H p = some (.ins A.aD dx []) ∧
 ∀ (H' : Hp) (W : Wd),Rep A.toCs H' W → W.aH = p → W.st = Vbahap.start → W.ms = [] → (∀ b,W.foot b → H b = none) → mR p H H' → Q .aC H'
theorem Yq (T : Txt w.params K mg A) : aE P w K mg base aQ 3 A.ia A.sg ["self"] (Vq A):=by
 have nd:=IC.nd
 have afm:=Yk (P:=P) (w:=w) (base:=base) T
 have afg:=Ye (P:=P) (w:=w) (base:=base) T
 have afb:=X9 (P:=P) (w:=w) (base:=base) T
 refine T.FN.ok IC (fun vs H Q E h => ?_) (fun cdv AA outer s H vs Q E hr h => ?_)
 ·obtain ⟨p,dx,rfl,hp,k⟩:=h
  rfl
 ·obtain ⟨p,dx,rfl,hp,k⟩:=h
  have ab8 : aq 2 _:=hr.mono (by decide)
  have ab2 : aq 2 _:=hr.mono (by decide)
  have abX : aq 2 _:=hr.mono (by decide)
  have hu:=aZ hr
  refine ⟨_,(au (bQ (pv 0) (Kg T.mf afg ab2 rfl T.Nj T.aeu .nil aB) rfl)
   (au (bQ (pv 0) (m8 T.mi afm ab8 rfl T.Nl T.aeA .nil aB (aa (ai (pv 0) rfl) ae)) rfl)
   (ah (bQ (pv 0) (m8 T.md afb abX rfl T.Nh T.aep .nil aB (aa (ai (pv 0) rfl) ae)) rfl)))),?_⟩
  intro x1 d1 n1 m1 e1
  refine ⟨x1,d1,rfl,af,fun H1 l c1 hl hl1 k1 => ⟨rfl,?_⟩⟩
  have s1 : ao H H1:=qf n1 m1 k1
  have hlH : H l = none:=by
   have nlx : l ≠ x1:=fun z => by rw [z,af] at hl; cases hl
   have nld : l ≠ d1:=fun z => by rw [z,ag e1,af] at hl; cases hl
   rw [ag nlx,ag nld] at hl
   exact hl
  have np1 : p ≠ x1:=bj hp n1
  have npl : p ≠ l:=bj hp hlH
  obtain ⟨g1,c1⟩:=c1
  have n1l : x1 ≠ l:=cz c1 hl1 (by show (["messages","sent"] : List Str) ≠ (["l"] : List Str); decide +kernel)
  refine ⟨_,rfl,p,A.aD,dx,_,rfl,s1 _ _ hp,T.br,T.cA,Nat.zero_lt_succ _,?_⟩
  rw [cn]
  have b2 : mR p H (upd H1 p (.ins A.aD dx [("net",.ref x1)])):=fun b o e hb => by rw [ag hb]; exact s1 _ _ e
  have c2 : upd H1 p (.ins A.aD dx [("net",.ref x1)]) x1 = some (.ins A.a5 g1 (cN l 0)):=by rw [ag np1.symm]; exact c1
  have l2 : upd H1 p (.ins A.aD dx [("net",.ref x1)]) l = some (.lst []):=by rw [ag npl.symm]; exact hl1
  have p2 : upd H1 p (.ins A.aD dx [("net",.ref x1)]) p = some (.ins A.aD dx [("net",.ref x1)]):=af
  generalize upd H1 p (.ins A.aD dx [("net",.ref x1)]) = H2 at b2 c2 l2 p2 ⊢
  have free2 : ∀ c,H2 c = none → H c = none ∨ c = p:=fun c e => by
   by_cases z : c = p
   ·exact .inr z
   ·cases q : H c with
    | none => exact .inl rfl
    | some o => rw [b2 c o q z] at e; cases e
  refine ⟨_,rfl,p,A.aD,dx,_,_,rfl,p2,T.br,T.cA,bN,?_⟩
  intro x2 d2 n2 m2 e2
  refine ⟨x2,d2,x1,rfl,af,fun H3 f kp c3 hf hk nfk hf3 hk3 k3 => ⟨rfl,?_⟩⟩
  have s3 : ao H2 H3:=qf n2 m2 k3
  have un3 : ∀ c,upd (upd H2 d2 (.own x2)) x2 (.ins A.aG d2 []) c = none → H2 c = none:=fun c e => by
   have z1 : c ≠ x2:=fun z => by rw [z,af] at e; cases e
   have z2 : c ≠ d2:=fun z => by rw [z,ag e2,af] at e; cases e
   rw [ag z1,ag z2] at e
   exact e
  have hf2:=un3 f hf
  have hk2:=un3 kp hk
  obtain ⟨g3,c3⟩:=c3
  have np3 : p ≠ x2:=bj p2 n2
  refine ⟨_,rfl,p,A.aD,dx,_,rfl,s3 _ _ p2,T.br,T.dq,lt1000 (by simp only [List.length_cons,List.length_nil]; decide),?_⟩
  rw [aL (by decide +kernel) cn]
  have npf : p ≠ f:=bj p2 hf2
  have npk : p ≠ kp:=bj p2 hk2
  have b4 : mR p H2 (upd H3 p (.ins A.aD dx [("net",.ref x1),("inventory",.ref x2)])):=fun b o e hb => by rw [ag hb]; exact s3 _ _ e
  have c4 : upd H3 p (.ins A.aD dx [("net",.ref x1),("inventory",.ref x2)]) x2 = some (.ins A.aG g3 (gB x1 f kp)):=by rw [ag np3.symm]; exact c3
  have f4 : upd H3 p (.ins A.aD dx [("net",.ref x1),("inventory",.ref x2)]) f = some (.dK []):=by rw [ag npf.symm]; exact hf3
  have k4 : upd H3 p (.ins A.aD dx [("net",.ref x1),("inventory",.ref x2)]) kp = some (.dT []):=by rw [ag npk.symm]; exact hk3
  have p4 : upd H3 p (.ins A.aD dx [("net",.ref x1),("inventory",.ref x2)]) p = some (.ins A.aD dx [("net",.ref x1),("inventory",.ref x2)]):=af
  generalize upd H3 p (.ins A.aD dx [("net",.ref x1),("inventory",.ref x2)]) = H4 at b4 c4 f4 k4 p4 ⊢
  refine ⟨_,rfl,p,A.aD,dx,_,_,rfl,p4,T.br,T.cA,bN,?_⟩
  intro x3 d3 n3 m3 e3
  refine ⟨x3,d3,x1,rfl,af,fun H5 sl c5 hs hs5 k5 => ⟨rfl,?_⟩⟩
  have s5 : ao H4 H5:=qf n3 m3 k5
  have hs4 : H4 sl = none:=by
   have z1 : sl ≠ x3:=fun z => by rw [z,af] at hs; cases hs
   have z2 : sl ≠ d3:=fun z => by rw [z,ag e3,af] at hs; cases hs
   rw [ag z1,ag z2] at hs
   exact hs
  obtain ⟨g5,c5⟩:=c5
  have np5 : p ≠ x3:=bj p4 n3
  have nps : p ≠ sl:=bj p4 hs4
  refine ⟨_,rfl,p,A.aD,dx,_,rfl,s5 _ _ p4,T.br,T.gz,lt1000 (by simp only [List.length_cons,List.length_nil]; decide),?_⟩
  rw [aL (by decide +kernel) (aL (by decide +kernel) cn)]
  have up : ∀ b o,H4 b = some o → b ≠ p → upd H5 p (.ins A.aD dx (jJ x1 x2 x3)) b = some o:=fun b o e hb => by rw [ag hb]; exact s5 _ _ e
  have n1p : x1 ≠ p:=np1.symm
  have w1:=up x1 _ (b4 x1 _ c2 n1p) n1p
  have wl:=up l _ (b4 l _ l2 npl.symm) npl.symm
  have w2:=up x2 _ c4 np3.symm
  have wf:=up f _ f4 npf.symm
  have wk:=up kp _ k4 npk.symm
  have w3 : upd H5 p (.ins A.aD dx (jJ x1 x2 x3)) x3 = some (.ins A.bw g5 (ky x1 sl)):=by rw [ag np5.symm]; exact c5
  have ws : upd H5 p (.ins A.aD dx (jJ x1 x2 x3)) sl = some (.dT []):=by rw [ag nps.symm]; exact hs5
  have R : Rep A.toCs (upd H5 p (.ins A.aD dx (jJ x1 x2 x3))) { aH:=p,aI:=x2,aR:=x3,aN:=x1,aM:=l,aF:=f,aK:=kp,aS:=sl,bU:=0,ms:=[],fl:=[],tr:=[],vw:=[],seq:=0 } :=
   ⟨⟨dx,af⟩,⟨g3,w2⟩,⟨g5,w3⟩,⟨g1,w1⟩,wl,wf,wk,ws,fun _ h => absurd h List.not_mem_nil,fun _ h => absurd h List.not_mem_nil,fun _ h => absurd h List.not_mem_nil,fun _ h => absurd h List.not_mem_nil,List.nodup_nil,List.nodup_nil,List.nodup_nil,bj k4 hs4⟩
  have old : ∀ c,H2 c = none → c ≠ p → H c = none:=fun c e z => (free2 c e).resolve_right z
  have old4 : ∀ c,H4 c = none → c ≠ p → H c = none:=fun c e z => by
   cases q : H2 c with
   | none => exact old c q z
   | some o => rw [b4 c o q z] at e; cases e
  refine k _ _ R rfl rfl rfl (fun b fb => ?_) fun b o e hb => up b o (b4 b o (b2 b o e hb) hb) hb
  rcases fb with z | z | z | z | z | z | z | z
  ·rw [show b = x1 from z]; exact n1
  ·rw [show b = l from z]; exact hlH
  ·rw [show b = f from z]; exact old f hf2 npf.symm
  ·rw [show b = kp from z]; exact old kp hk2 npk.symm
  ·rw [show b = sl from z]; exact old4 sl hs4 nps.symm
  ·exact absurd z List.not_mem_nil
  ·exact absurd z List.not_mem_nil
  ·exact absurd z List.not_mem_nil
def fj (s : State) (f : Nat) : Int:=match Vbahap.flightOf s f with
 | none => -3
 | some x => if x.shut = true then -7 else 0
def Uw (A : Ad) : Sp:=fun vs H Q _ => ∃ (W : Wd) (f : Nat),vs = [.ref W.aI,.int f] ∧ Rep A.toCs H W ∧ Q (.int (fj W.st f)) H
theorem Kp (T : Txt w.params K mg A) : aE P w K mg base aQ 1 A.j5 A.qR ["inventory","f"] (Uw A):=by
 have nd:=Hm.nd
 refine T.oI.ok Hm (fun vs H Q E h => ?_) (fun cdv AA outer s H vs Q E hr h => ?_)
 ·obtain ⟨W,f,rfl,R,k⟩:=h
  rfl
 ·obtain ⟨W,f,rfl,R,k⟩:=h
  have hu:=aZ hr
  refine ⟨_,(au (bo (m4 (Kk hu (pv 1) (ai (pv 0) rfl))) (ah (aT (bg T.sx))) bH)
   (au (bo (de (ai (kD hu (ai (pv 0) rfl) (pv 1) (fun _ _ => rfl)) rfl)) (ah (aT (bg T.C7))) bH)
   (ah (aT ay)))),?_⟩
  obtain ⟨dx,hI⟩:=R.inv
  refine ⟨_,rfl,_,rfl,W.aI,A.aG,dx,_,_,rfl,hI,T.bb,T.eC,fB _ _ _,W.aF,_,rfl,bL.k (k:=Sum.inl (f : Int)) R.bF,_,rfl,?_⟩
  unfold fj at k
  rcases lu W.fl f with ⟨p,hp,hf,hv,hs⟩ | ⟨hv,hs⟩
  ·have fo : Vbahap.flightOf W.st f = some p.2:=hs
   obtain ⟨dp,hpp⟩:=R.cE p hp
   rw [fo] at k
   rw [hv]
   have g:=bL.k (k:=Sum.inl (f : Int)) R.bF
   rw [hv] at g
   refine a8 ?_
   refine ⟨_,rfl,W.aI,A.aG,dx,_,_,rfl,hI,T.bb,T.eC,fB _ _ _,_,rfl,W.aF,_,rfl,g,p.1,A.bS,dp,_,_,rfl,hpp,T.fY,T.l7,xl _,_,rfl,?_⟩
   cases hsh : p.2.shut with
   | true =>
     refine bc ?_
     simp only [hsh,if_true] at k
     exact k
   | false =>
     refine a8 ?_
     simp only [hsh,Bool.false_eq_true,if_false] at k
     exact k
  ·have fo : Vbahap.flightOf W.st f = none:=hs
   rw [fo] at k
   rw [hv]
   refine bc ?_
   exact k
def UR (A : Ad) : Sp:=fun vs H Q _ => ∃ (W : Wd) (p : Addr) (m : Msg),vs = [.ref W.aH,.ref p] ∧ H p = some (.tup (dM m)) ∧ Rep A.toCs H W ∧ Good W.st ∧ cX W.st m ∧ W.ms.length + 200 < sizeLine ∧
 ∀ (H' : Hp) (W' : Wd),aA A.toCs H W H' W' → W'.st = Vbahap.receive W.st m → Q .aC H'
theorem KN (T : Txt w.params K mg A) : aE P w K mg base aQ 7 A.j7 A.ro ["houses","message"] (UR A):=by
 have nd:=HL.nd
 have afq:=Yo (P:=P) (w:=w) (base:=base) T
 have afc:=Ya (P:=P) (w:=w) (base:=base) T
 refine T.oJ.ok HL (fun vs H Q E h => ?_) (fun cdv AA outer s H vs Q E hr h => ?_)
 ·obtain ⟨W,p,m,rfl,hp,R,g,hm,hl,k⟩:=h
  rfl
 ·obtain ⟨W,p,m,rfl,hp,R,g,hm,hl,k⟩:=h
  have acd : aq 6 _:=hr.mono (by decide)
  have abY : aq 2 _:=hr.mono (by decide)
  have hu:=aZ hr
  refine ⟨_,(ah (bo (bz eA (a6 cb (pv 1) ay (fun _ _ => rfl)) (bg T.CW) (bp _)) (ah (bB (bh (ai (pv 0) rfl) T.cF T.Lc afc abY T.aeq .nil aB (aa (a6 cb (pv 1) ay (fun _ _ => rfl)) (aa (a6 cb (pv 1) ay (fun _ _ => rfl)) (aa (a6 cb (pv 1) ay (fun _ _ => rfl)) (aa (a6 cb (pv 1) ay (fun _ _ => rfl)) ae))))))) (ah (bB (bh (ai (pv 0) rfl) T.bb T.Lm afq acd T.aeE .nil aB (aa (pv 1) ae)))))),?_⟩
  obtain ⟨dh,hH⟩:=R.hs
  obtain ⟨di,hI⟩:=R.inv
  obtain ⟨dr,hR⟩:=R.res
  have hq : a4 K H p (dM m):=a4.of hp
  cases m with
  | st r no v s0 =>
    refine ⟨_,rfl,p,_,_,_,rfl,rfl,hq,dw,rfl,_,rfl,bc ?_⟩
    have hv : dy W.st r no:=by
     obtain ⟨t,ht,e1,e2,_⟩:=hm.1
     have:=g.tv t ht
     rw [e1,e2] at this
     exact this
    exact ⟨_,rfl,W.aH,A.aD,dh,_,_,rfl,hH,T.br,T.gz,kH _ _ _,W.aR,dr,_,rfl,hR,jG _ _ (by decide +kernel),_,rfl,p,_,_,_,rfl,rfl,hq,lI,_,rfl,p,_,_,_,rfl,rfl,hq,at2,_,rfl,p,_,_,_,rfl,rfl,hq,Dv,_,rfl,p,_,_,_,rfl,rfl,hq,Rf,W,r,no,v,s0,rfl,R,g,hv,ma hl,k⟩
  | ask r no f n =>
    refine ⟨_,rfl,p,_,_,_,rfl,rfl,hq,dw,rfl,_,rfl,a8 ?_⟩
    exact ⟨_,rfl,W.aH,A.aD,dh,_,_,rfl,hH,T.br,T.dq,dO _ _ _,W.aI,di,_,rfl,hI,bR _ _ _ (by decide +kernel),_,rfl,W,p,_,rfl,hp,rfl,R,g,hm,hl,k⟩
  | can r no =>
    refine ⟨_,rfl,p,_,_,_,rfl,rfl,hq,dw,rfl,_,rfl,a8 ?_⟩
    exact ⟨_,rfl,W.aH,A.aD,dh,_,_,rfl,hH,T.br,T.dq,dO _ _ _,W.aI,di,_,rfl,hI,bR _ _ _ (by decide +kernel),_,rfl,W,p,_,rfl,hp,rfl,R,g,hm,hl,k⟩
  | ack r no v =>
    refine ⟨_,rfl,p,_,_,_,rfl,rfl,hq,dw,rfl,_,rfl,a8 ?_⟩
    exact ⟨_,rfl,W.aH,A.aD,dh,_,_,rfl,hH,T.br,T.dq,dO _ _ _,W.aI,di,_,rfl,hI,bR _ _ _ (by decide +kernel),_,rfl,W,p,_,rfl,hp,rfl,R,g,hm,hl,k⟩
theorem Sz (s : State) : Vbahap.again s = s.views.filterMap dI ++ s.truths.filterMap gg:=rfl
def Um (A : Ad) : Sp:=fun vs H Q _ => ∃ (W : Wd),vs = [.ref W.aH] ∧ Rep A.toCs H W ∧ Good W.st ∧ W.ms.length + 200 < sizeLine ∧
 ∀ (H' : Hp) (W' : Wd),aA A.toCs H W H' W' → W'.st = Vbahap.send W.st (Vbahap.again W.st) → Q .aC H'
theorem Ko (T : Txt w.params K mg A) : aE P w K mg base aQ 4 A.jU A.qI ["houses"] (Um A):=by
 have nd:=Hd.nd
 have afl:=Yj (P:=P) (w:=w) (base:=base) T
 have afa:=X8 (P:=P) (w:=w) (base:=base) T
 refine T.oH.ok Hd (fun vs H Q E h => ?_) (fun cdv AA outer s H vs Q E hr h => ?_)
 ·obtain ⟨W,rfl,R,g,hl,k⟩:=h
  rfl
 ·obtain ⟨W,rfl,R,g,hl,k⟩:=h
  have ab7 : aq 3 _:=hr.mono (by decide)
  have abW : aq 3 _:=hr.mono (by decide)
  have hu:=aZ hr
  refine ⟨_,(au (bB (uU (ai (pv 0) rfl) T.cF T.Lb afa abW T.aeo .nil aB))
   (ah (bB (uU (ai (pv 0) rfl) T.bb T.Li afl ab7 T.aez .nil aB)))),?_⟩
  obtain ⟨dh,hH⟩:=R.hs
  obtain ⟨dr,hR⟩:=R.res
  refine ⟨_,rfl,W.aH,A.aD,dh,_,_,rfl,hH,T.br,T.gz,kH _ _ _,W.aR,dr,_,rfl,hR,jG _ _ (by decide +kernel),W,rfl,R,g,(by omega),fun H1 W1 po1 es1 hm1 => ?_⟩
  obtain ⟨dh1,hH1⟩:=po1.rep.hs
  obtain ⟨di1,hI1⟩:=po1.rep.inv
  rw [po1.fr.adr.aH,po1.fr.adr.aN,po1.fr.adr.aI,po1.fr.adr.aR] at hH1
  rw [po1.fr.adr.aI] at hI1
  have g1 : Good W1.st:=by
   rw [es1]
   refine fC g fun m hm => mJ g m ?_
   rw [Sz]
   exact List.mem_append_left _ hm
  refine ⟨_,rfl,W.aH,A.aD,dh1,_,_,rfl,hH1,T.br,T.dq,dO _ _ _,W.aI,di1,_,rfl,hI1,bR _ _ _ (by decide +kernel),W1,?_,po1.rep,g1,(by omega),fun H2 W2 po2 es2 => ?_⟩
  ·rw [po1.fr.adr.aI] <;> rfl
  ·refine k H2 W2 (po1.trans po2) ?_
   rw [es2,es1]
   show Vbahap.send (Vbahap.send W.st _) (W.st.truths.filterMap gg) = _
   rw [ui,Sz]
def eM (v : View) (t : Truth) : Bool:=v.seen == t.version && (v.status == t.status && (t.acked == t.version && (!v.cancel || Vbahap.final v.status)))
def Uu (A : Ad) : Sp:=fun vs H Q _ => ∃ (a : Addr) (v : View) (x : V),vs = [.ref a,x] ∧ cq H a A.aV (cD v) ∧
 ((x = .aC ∧ ∀ H',ao H H' → Q (.bl false) H') ∨ ∃ (b : Addr) (t : Truth),x = .ref b ∧ cq H b A.aP (cx t) ∧ t.status ≤ 5 ∧ ∀ H',ao H H' → Q (.bl (eM v t)) H')
theorem X4 (T : Txt w.params K mg A) : aE P w K mg base aQ 2 A.j3 A.qP ["own","kept"] (Uu A):=by
 have nd:=Hk.nd
 have ki:=nv (P:=P) (w:=w) (base:=base) T
 refine T.tj.ok Hk (fun vs H Q E h => ?_) (fun cdv AA outer s H vs Q E hr h => ?_)
 ·obtain ⟨a,v,x,rfl,⟨da,ha⟩,hk⟩:=h
  rfl
 ·obtain ⟨a,v,x,rfl,⟨da,ha⟩,hk⟩:=h
  have jK : aq 1 _:=hr.mono (by decide)
  have hu:=aZ hr
  refine ⟨_,(au (bo (bz gu (pv 1) dA (bp _)) (ah (aT jC)) bH)
   (au (bo (PW.pt (mX (bz nj (ai (pv 0) rfl) (ai (pv 1) rfl) (bp _)) (mX (bz nj (ai (pv 0) rfl) (ai (pv 1) rfl) (bp _)) (o8 (bz nj (ai (pv 1) rfl) (ai (pv 1) rfl) (bp _)))))) (ah (aT jC)) bH)
   (ah (aT (XG (cw ki jK rfl T.mK T.kZ.kp T.om .nil aB (aa (ai (pv 1) rfl) ae)) (uT (Kf (ai (pv 0) rfl)))))))),?_⟩
  rcases hk with ⟨rfl,k⟩ | ⟨b,t,rfl,⟨db,hb⟩,ht,k⟩
  ·refine ⟨_,rfl,rfl,_,rfl,bc ?_⟩
   exact k H (ao.refl H)
  ·refine ⟨_,rfl,rfl,_,rfl,a8 ?_⟩
   have nb : ∀ x y : Nat,(!decide (V.int (x : Int) = V.int (y : Int))) = !decide (x = y):=fun x y => by rw [ie]
   refine ⟨_,rfl,a,A.aV,da,_,_,rfl,ha,T.bP,T.gw,lx _,_,rfl,b,A.aP,db,_,_,rfl,hb,T.bM,T.gx,ly _,rfl,_,rfl,?_⟩
   rw [nb]
   by_cases c1 : v.seen = t.version
   ·rw [decide_eq_true c1]
    refine a8 ?_
    refine ⟨_,rfl,a,A.aV,da,_,_,rfl,ha,T.bP,T.lj,qk _,_,rfl,b,A.aP,db,_,_,rfl,hb,T.bM,T.gy,lz _,rfl,_,rfl,?_⟩
    rw [nb]
    by_cases c2 : v.status = t.status
    ·rw [decide_eq_true c2]
     refine a8 ?_
     refine ⟨_,rfl,b,A.aP,db,_,_,rfl,hb,T.bM,T.lp,qm _,_,rfl,b,A.aP,db,_,_,rfl,hb,T.bM,T.gx,ly _,rfl,_,rfl,?_⟩
     rw [nb]
     by_cases c3 : t.acked = t.version
     ·rw [decide_eq_true c3]
      refine a8 ?_
      refine ⟨_,rfl,b,A.aP,db,_,_,rfl,hb,T.bM,T.gy,lz _,t.status,rfl,ht,fun H1 s1 => ⟨_,rfl,?_⟩⟩
      have e : eM v t = (Vbahap.final t.status || !v.cancel):=by
       unfold eM
       rw [c1,c2,c3]
       simp [Bool.or_comm]
      have k1:=k H1 s1
      rw [e] at k1
      cases hf : Vbahap.final t.status with
      | true =>
        refine bc ?_
        rw [hf] at k1
        exact k1
      | false =>
        refine a8 ?_
        rw [hf] at k1
        exact ⟨_,rfl,a,A.aV,da,_,_,rfl,s1 _ _ ha,T.bP,T.lh,qj _,_,rfl,k1⟩
     ·rw [decide_eq_false c3]
      refine bc ?_
      have e : eM v t = false:=by unfold eM; simp [c3]
      have k1:=k H (ao.refl H)
      rw [e] at k1
      exact k1
    ·rw [decide_eq_false c2]
     refine bc ?_
     have e : eM v t = false:=by unfold eM; simp [c2]
     have k1:=k H (ao.refl H)
     rw [e] at k1
     exact k1
   ·rw [decide_eq_false c1]
    refine bc ?_
    have e : eM v t = false:=by unfold eM; simp [c1]
    have k1:=k H (ao.refl H)
    rw [e] at k1
    exact k1
end
end Sh
end
section
namespace Sh
open PySem PySem.Spec PyProof.Rows L2
open Vbahap (State Truth View Flight Msg)
def cU (A : Ad) (q : Nat) : Sp:=fun vs H Q _ => ∃ (W : Wd) (l : List Int) (p : Addr),vs = [.ref W.aH,.ref p] ∧ Rep A.toCs H W ∧ Good W.st ∧ H p = some (.lst (l.map V.int)) ∧ Fits q l ∧ inR q l = true ∧ W.ms.length + 10000 < sizeLine ∧ W.ms.length ≤ 100000 ∧
 ∀ (H' : Hp) (W' : Wd) (b : Addr),Rep A.toCs H' W' → aO H W H' W' → W'.st = (Vbahap.step W.st (cG q l)).1 → (∀ c o,H c = some o → ¬ W.foot c → c ≠ b) → H' b = some (.lst ((Vbahap.step W.st (cG q l)).2.map V.int)) → Q (.ref b) H'
theorem aO.away {H H2 : Hp} {W W2 : Wd} {b : Addr} (F : aO H W H2 W2) (hb : H2 b = none) : ∀ c o,H c = some o → ¬ W.foot c → c ≠ b:=fun c o e n z => by
 have:=F.keep c o e n
 rw [z,hb] at this
 cases this
theorem aO.fin {A : Cs} {H H2 : Hp} {W W2 : Wd} {b : Addr} {xs : List V} {S : State × List Int} {Q : VK} (F : aO H W H2 W2) (R : Rep A H2 W2) (hb : H2 b = none)
 (k : ∀ (H' : Hp) (W' : Wd) (b : Addr),Rep A H' W' → aO H W H' W' → W'.st = S.1 → (∀ c o,H c = some o → ¬ W.foot c → c ≠ b) → H' b = some (.lst (S.2.map V.int)) → Q (.ref b) H') (es : W2.st = S.1) (ex : xs = S.2.map V.int) : Q (.ref b) (L2.upd H2 b (.lst xs)) :=
 k _ W2 b (R.same (aU hb)) (F.trans (aO.same (aU hb))) es (F.away hb) (by rw [af,ex])
theorem aA.fin {A : Cs} {H H2 : Hp} {W W2 : Wd} {b : Addr} {xs : List V} {S : State × List Int} {Q : VK} (po : aA A H W H2 W2) (hb : H2 b = none)
 (k : ∀ (H' : Hp) (W' : Wd) (b : Addr),Rep A H' W' → aO H W H' W' → W'.st = S.1 → (∀ c o,H c = some o → ¬ W.foot c → c ≠ b) → H' b = some (.lst (S.2.map V.int)) → Q (.ref b) H') (es : W2.st = S.1) (ex : xs = S.2.map V.int) : Q (.ref b) (upd H2 b (.lst xs)) :=
 po.fr.fin po.rep hb k es ex
theorem A8 {A : Cs} {H H2 : Hp} {W W2 : Wd} (po : aA A H W H2 W2) : Vbahap.grown W.st W2.st = [0,W2.bU - W.bU]:=by
 unfold Vbahap.grown
 rw [kI,kI]
 have:=po.cnt
 congr 2
 omega
section
variable {P : Program} {w : World} {K : PySem.W.Frag} {mg : Str → Option Value} {base : Heap} {A : Ad}
theorem eB {H : Hp} {p : Addr} {a : Int} {l : List Int} (h : H p = some (.lst ((a :: l).map V.int))) : az K H p ((a :: l).map V.int):=az.of h
theorem cK {a : Int} {l : List Int} : cS ((a :: l).map V.int) 0 = some (.int a):=dw
theorem mF {a b : Int} {l : List Int} : cS ((a :: b :: l).map V.int) 1 = some (.int b):=lI
theorem ix2 {a b c : Int} {l : List Int} : cS ((a :: b :: c :: l).map V.int) 2 = some (.int c):=at2
def UK (A : Ad) : Sp:=cU A 0
theorem KD (T : Txt w.params K mg A) : aE P w K mg base aQ 3 A.fR A.rf ["houses","numbers"] (UK A):=by
 have nd:=HE.nd
 have aft:=Yr (P:=P) (w:=w) (base:=base) T
 refine T.tK.ok HE (fun vs H Q E h => ?_) (fun cdv AA outer s H vs Q E hr h => ?_)
 ·obtain ⟨W,l,p,rfl,R,g,hp,hf,hin,hl,_,k⟩:=h
  rfl
 ·obtain ⟨W,l,p,rfl,R,g,hp,hf,hin,hl,_,k⟩:=h
  have acg : aq 2 _:=hr.mono (by decide)
  have hu:=aZ hr
  refine ⟨_,(au (bI (i:=2) nd rfl (Or.inl rfl) (ai (ai (pv 0) rfl) rfl))
   (au (bo (m4 (Km hu (a6 bV (pv 1) ay (fun _ _ => rfl)) (pv 2))) (ah (aT (bA (aa (bg T.QG) ae)))) bH)
   (au (bo (bz pV (dB adH (by rfl) T.dX PySem.boot_len (aa (pv 2) ae)) (bg T.QL) (bp _)) (ah (aT (bA (aa (bg T.sD) ae)))) bH)
   (au (uB hu (pv 2) (a6 bV (pv 1) ay (fun _ _ => rfl)) (m8 T.ml aft acg rfl T.Nn T.aeH .nil aB (aa (a6 bV (pv 1) ay (fun _ _ => rfl)) ae)) rfl)
   (ah (aT (bA (aa ay ae)))))))),?_⟩
  obtain ⟨f,cap,rfl⟩:=nX hf hin (by decide) rfl
  obtain ⟨dh,hH⟩:=R.hs
  obtain ⟨di,hI⟩:=R.inv
  have hq:=eB (K:=K) hp
  refine ⟨_,rfl,W.aH,A.aD,dh,_,_,rfl,hH,T.br,T.dq,dO _ _ _,W.aI,A.aG,di,_,_,rfl,hI,T.bb,T.eC,fB _ _ _,?_⟩
  refine ⟨_,rfl,p,_,_,_,rfl,rfl,hq,cK,_,rfl,W.aF,_,rfl,bL.k (k:=Sum.inl (f : Int)) R.bF,_,rfl,?_⟩
  have es : Vbahap.step W.st (cG 0 [(f : Int),(cap : Int)]) = if (Vbahap.flightOf W.st f).isSome = true then (W.st,[-5]) else if Vbahap.MOSTFLIGHTS ≤ W.st.flights.length then (W.st,[-6]) else ({ W.st with flights:=W.st.flights ++ [{ f:=f,cap:=cap,shut:=false }] },[0]):=rfl
  rw [es] at k
  rcases lu W.fl f with ⟨x,hx,hxf,hv,hs⟩ | ⟨hv,hs⟩
  ·have fo : Vbahap.flightOf W.st f = some x.2:=hs
   rw [hv]
   rw [fo] at k
   refine bc ?_
   refine ⟨(by show 1 ≤ sizeLine; decide),fun b hb => ?_⟩
   exact (aA.refl R).fin hb k rfl rfl
  ·have fo : Vbahap.flightOf W.st f = none:=hs
   rw [hv]
   rw [fo] at k
   refine a8 ?_
   refine ⟨_,rfl,W.aF,_,rfl,R.bF,_,_,rfl,rfl,_,rfl,?_⟩
   have el : (d8 W.fl).length = W.st.flights.length:=by unfold d8 Wd.st; rw [List.length_map,List.length_map]
   rw [el]
   refine c7 (fun c => ?_) (fun c => ?_)
   ·have c1 : Vbahap.MOSTFLIGHTS ≤ W.st.flights.length:=by
     have:=of_decide_eq_true c
     show 12 ≤ _
     omega
    rw [if_neg (by simp),if_pos c1] at k
    refine ⟨(by show 1 ≤ sizeLine; decide),fun b hb => ?_⟩
    exact (aA.refl R).fin hb k rfl rfl
   ·have c1 : ¬ Vbahap.MOSTFLIGHTS ≤ W.st.flights.length:=fun z => c (decide_eq_true (by
     have z' : 12 ≤ W.st.flights.length:=z
     omega))
    rw [if_neg (by simp),if_neg c1] at k
    refine ⟨_,rfl,p,_,_,_,rfl,rfl,hq,mF,fun x dx nx ndx nex => ?_⟩
    let t : Flight:={ f:=f,cap:=cap,shut:=false }
    refine ⟨x,dx,t,rfl,rfl,af,fun H1 h1 k1 => ⟨rfl,?_⟩⟩
    have s1 : ao H H1:=ao.made nx ndx k1
    have R1:=R.same s1
    refine ⟨_,rfl,_,rfl,p,_,_,_,rfl,rfl,s1.seq hq,cK,W.aF,_,rfl,kq.k (k:=Sum.inl (f : Int)) R1.bF (by unfold d8; rw [List.length_map,sizeLine_eq]; have:=g.fl; rw [abj] at this; omega),?_⟩
    rw [uz _ hv]
    have R2:=R1.kg (u:=t) (fun q hq e => by
     obtain ⟨d,h⟩:=R.cE q hq
     rw [e,nx] at h
     cases h) h1
    have F2 : aO H W _ (W.kg x t):=aO.kg (u:=t) (o:=.dK (d8 W.fl ++ [(Sum.inl (t.f : Int),V.ref x)])) (aO.same s1) nx
    refine ⟨(by show 1 ≤ sizeLine; decide),fun b hb => ?_⟩
    exact aA.fin (W2:=W.kg x t) ⟨R2,F2,rfl⟩ hb k (Wd.aeV _ _ _) rfl
theorem IG (s : State) (f : Nat) (kf : Flight → State × List Int) : Vbahap.onFlight s f (fun x => if x.shut = true then (s,[-7]) else kf x) = if fj s f ≠ 0 then (s,[fj s f]) else match Vbahap.flightOf s f with | none => (s,[-3]) | some x => kf x:=by
 unfold Vbahap.onFlight fj
 cases Vbahap.flightOf s f with
 | none => rfl
 | some x =>
   cases h : x.shut with
   | true => simp [h]
   | false => simp [h]
theorem IF {s : State} {f : Nat} (h : fj s f = 0) : ∃ x,Vbahap.flightOf s f = some x ∧ x.shut = false:=by
 unfold fj at h
 cases e : Vbahap.flightOf s f with
 | none => rw [e] at h; cases h
 | some x =>
   rw [e] at h
   cases c : x.shut with
   | true => simp [c] at h
   | false => exact ⟨x,rfl,c⟩
def UN (A : Ad) : Sp:=cU A 1
theorem KI (T : Txt w.params K mg A) : aE P w K mg base aQ 6 A.fU A.rk ["houses","numbers"] (UN A):=by
 have nd:=HH.nd
 have afr:=Yp (P:=P) (w:=w) (base:=base) T
 have E2:=Kp (P:=P) (w:=w) (base:=base) T
 refine T.tN.ok HH (fun vs H Q E h => ?_) (fun cdv AA outer s H vs Q E hr h => ?_)
 ·obtain ⟨W,l,p,rfl,R,g,hp,hf,hin,hl,_,k⟩:=h
  rfl
 ·obtain ⟨W,l,p,rfl,R,g,hp,hf,hin,hl,_,k⟩:=h
  have ace : aq 5 _:=hr.mono (by decide)
  have AR : aq 1 _:=hr.mono (by decide)
  have hu:=aZ hr
  refine ⟨_,(au (bI (i:=2) nd rfl (Or.inl rfl) (cw E2 AR rfl T.Bc T.oI.kp T.Q3 .nil aB (aa (ai (pv 0) rfl) (aa (a6 bV (pv 1) ay (fun _ _ => rfl)) ae))))
   (au (bo (bz nj (pv 2) ay (bp _)) (ah (aT (bA (aa (pv 2) ae)))) bH)
   (au (bI (i:=3) nd rfl (Or.inl rfl) (ai (ai (pv 0) rfl) rfl))
   (au (bB (bh (ai (pv 0) rfl) T.bb T.Ln afr ace T.aeF .nil aB (aa (a6 bV (pv 1) ay (fun _ _ => rfl)) (aa (a6 bV (pv 1) ay (fun _ _ => rfl)) ae))))
   (ah (aT (bA (aa ay (aa (cW lb (ai (ai (pv 0) rfl) rfl) (pv 3)) ae))))))))),?_⟩
  obtain ⟨f,cap,rfl⟩:=nX hf hin (by decide) rfl
  obtain ⟨dh,hH⟩:=R.hs
  obtain ⟨di,hI⟩:=R.inv
  obtain ⟨dn,hN⟩:=R.net
  have hq:=eB (K:=K) hp
  have es : Vbahap.step W.st (cG 1 [(f : Int),(cap : Int)]) = Vbahap.onFlight W.st f fun x => if x.shut = true then (W.st,[-7]) else (Vbahap.clearFlight (Vbahap.withdraw (Vbahap.setFlight W.st { x with cap:=cap }) f cap ((W.st.truths.filter fun t => t.f == f && t.status == 1).reverse)) f,Vbahap.grown W.st (Vbahap.clearFlight (Vbahap.withdraw (Vbahap.setFlight W.st { x with cap:=cap }) f cap ((W.st.truths.filter fun t => t.f == f && t.status == 1).reverse)) f)):=rfl
  rw [es,IG] at k
  refine ⟨_,rfl,W.aH,A.aD,dh,_,_,rfl,hH,T.br,T.dq,dO _ _ _,_,rfl,p,_,_,_,rfl,rfl,hq,cK,W,f,rfl,R,?_⟩
  refine ⟨_,rfl,rfl,_,rfl,?_⟩
  by_cases c : fj W.st f = 0
  ·obtain ⟨x,hx,_⟩:=IF c
   rw [if_neg (by rw [c]; simp),hx] at k
   rw [c]
   refine a8 ?_
   refine ⟨_,rfl,W.aH,A.aD,dh,_,_,rfl,hH,T.br,T.cA,cO _ _ _,W.aN,A.a5,dn,_,_,rfl,hN,T.bW,T.eP,jE _ _,?_⟩
   refine ⟨_,rfl,W.aH,A.aD,dh,_,_,rfl,hH,T.br,T.dq,dO _ _ _,W.aI,di,_,rfl,hI,bR _ _ _ (by decide +kernel),_,rfl,p,_,_,_,rfl,rfl,hq,cK,_,rfl,p,_,_,_,rfl,rfl,hq,mF,W,f,cap,x,rfl,R,g,hx,(by omega),fun H2 W2 po es2 => ?_⟩
   obtain ⟨dh2,hH2⟩:=po.rep.hs
   obtain ⟨dn2,hN2⟩:=po.rep.net
   rw [po.fr.adr.aH,po.fr.adr.aN] at hH2
   rw [po.fr.adr.aN] at hN2
   refine ⟨_,rfl,W.aH,A.aD,dh2,_,_,rfl,hH2,T.br,T.cA,cO _ _ _,W.aN,A.a5,dn2,_,_,rfl,hN2,T.bW,T.eP,jE _ _,_,rfl,_,_,rfl,rfl,(by show 2 ≤ sizeLine; decide),fun b hb => ?_⟩
   refine po.fin hb k es2 ?_
   show [V.int 0,V.int (W2.bU - W.bU)] = (Vbahap.grown W.st _).map V.int
   rw [← es2,A8 po]
   rfl
  ·rw [if_pos c] at k
   have cd : (!decide (V.int (fj W.st f) = V.int 0)) = true:=by
    rw [decide_eq_false (fun z => c (V.int.inj z))]
    rfl
   rw [cd]
   refine bc ?_
   refine ⟨_,rfl,(by show 1 ≤ sizeLine; decide),fun b hb => ?_⟩
   exact (aA.refl R).fin hb k rfl rfl
def UA (A : Ad) : Sp:=cU A 2
theorem Kt (T : Txt w.params K mg A) : aE P w K mg base aQ 5 A.fI A.qV ["houses","numbers"] (UA A):=by
 have nd:=Hr.nd
 have afk:=Yi (P:=P) (w:=w) (base:=base) T
 have E2:=Kp (P:=P) (w:=w) (base:=base) T
 refine T.tu.ok Hr (fun vs H Q E h => ?_) (fun cdv AA outer s H vs Q E hr h => ?_)
 ·obtain ⟨W,l,p,rfl,R,g,hp,hf,hin,hl,_,k⟩:=h
  rfl
 ·obtain ⟨W,l,p,rfl,R,g,hp,hf,hin,hl,_,k⟩:=h
  have ab6 : aq 4 _:=hr.mono (by decide)
  have AR : aq 1 _:=hr.mono (by decide)
  have hu:=aZ hr
  refine ⟨_,(au (bI (i:=2) nd rfl (Or.inl rfl) (cw E2 AR rfl T.Bc T.oI.kp T.Q3 .nil aB (aa (ai (pv 0) rfl) (aa (a6 bV (pv 1) ay (fun _ _ => rfl)) ae))))
   (au (bo (bz nj (pv 2) ay (bp _)) (ah (aT (bA (aa (pv 2) ae)))) bH)
   (au (bI (i:=3) nd rfl (Or.inl rfl) (ai (ai (pv 0) rfl) rfl))
   (au (bB (bh (ai (pv 0) rfl) T.bb T.Lh afk ab6 T.aey .nil aB (aa (a6 bV (pv 1) ay (fun _ _ => rfl)) ae)))
   (ah (aT (bA (aa ay (aa (cW lb (ai (ai (pv 0) rfl) rfl) (pv 3)) ae))))))))),?_⟩
  obtain ⟨f,rfl⟩:=lF hf hin (by decide) rfl
  obtain ⟨dh,hH⟩:=R.hs
  obtain ⟨di,hI⟩:=R.inv
  obtain ⟨dn,hN⟩:=R.net
  have hq:=eB (K:=K) hp
  have es : Vbahap.step W.st (cG 2 [(f : Int)]) = Vbahap.onFlight W.st f fun x => if x.shut = true then (W.st,[-7]) else (Vbahap.turnAll (Vbahap.setFlight W.st { x with shut:=true }) 5 (W.st.truths.filter fun t => t.f == f && !Vbahap.final t.status),Vbahap.grown W.st (Vbahap.turnAll (Vbahap.setFlight W.st { x with shut:=true }) 5 (W.st.truths.filter fun t => t.f == f && !Vbahap.final t.status))):=rfl
  rw [es,IG] at k
  refine ⟨_,rfl,W.aH,A.aD,dh,_,_,rfl,hH,T.br,T.dq,dO _ _ _,_,rfl,p,_,_,_,rfl,rfl,hq,cK,W,f,rfl,R,?_⟩
  refine ⟨_,rfl,rfl,_,rfl,?_⟩
  by_cases c : fj W.st f = 0
  ·obtain ⟨x,hx,_⟩:=IF c
   rw [if_neg (by rw [c]; simp),hx] at k
   rw [c]
   refine a8 ?_
   refine ⟨_,rfl,W.aH,A.aD,dh,_,_,rfl,hH,T.br,T.cA,cO _ _ _,W.aN,A.a5,dn,_,_,rfl,hN,T.bW,T.eP,jE _ _,?_⟩
   refine ⟨_,rfl,W.aH,A.aD,dh,_,_,rfl,hH,T.br,T.dq,dO _ _ _,W.aI,di,_,rfl,hI,bR _ _ _ (by decide +kernel),_,rfl,p,_,_,_,rfl,rfl,hq,cK,W,f,x,rfl,R,g,hx,(by omega),fun H2 W2 po es2 => ?_⟩
   obtain ⟨dh2,hH2⟩:=po.rep.hs
   obtain ⟨dn2,hN2⟩:=po.rep.net
   rw [po.fr.adr.aH,po.fr.adr.aN] at hH2
   rw [po.fr.adr.aN] at hN2
   refine ⟨_,rfl,W.aH,A.aD,dh2,_,_,rfl,hH2,T.br,T.cA,cO _ _ _,W.aN,A.a5,dn2,_,_,rfl,hN2,T.bW,T.eP,jE _ _,_,rfl,_,_,rfl,rfl,(by show 2 ≤ sizeLine; decide),fun b hb => ?_⟩
   refine po.fin hb k es2 ?_
   show [V.int 0,V.int (W2.bU - W.bU)] = (Vbahap.grown W.st _).map V.int
   rw [← es2,A8 po]
   rfl
  ·rw [if_pos c] at k
   have cd : (!decide (V.int (fj W.st f) = V.int 0)) = true:=by
    rw [decide_eq_false (fun z => c (V.int.inj z))]
    rfl
   rw [cd]
   refine bc ?_
   refine ⟨_,rfl,(by show 1 ≤ sizeLine; decide),fun b hb => ?_⟩
   exact (aA.refl R).fin hb k rfl rfl
def UC (A : Ad) : Sp:=cU A 3
theorem Kv (T : Txt w.params K mg A) : aE P w K mg base aQ 4 A.fK A.qX ["houses","numbers"] (UC A):=by
 have nd:=Ht.nd
 have ae9:=X7 (P:=P) (w:=w) (base:=base) T
 refine T.tD.ok Ht (fun vs H Q E h => ?_) (fun cdv AA outer s H vs Q E hr h => ?_)
 ·obtain ⟨W,l,p,rfl,R,g,hp,hf,hin,hl,_,k⟩:=h
  rfl
 ·obtain ⟨W,l,p,rfl,R,g,hp,hf,hin,hl,_,k⟩:=h
  have abV : aq 3 _:=hr.mono (by decide)
  have hu:=aZ hr
  refine ⟨_,(au (bo (bz pV (dB adG (by rfl) T.dX PySem.boot_len (aa (ai (ai (pv 0) rfl) rfl) ae)) (bg T.QK) (bp _)) (ah (aT (bA (aa (bg T.sD) ae)))) bH)
   (ah (aT (bA (aa ay (aa (bh (ai (pv 0) rfl) T.cF T.La ae9 abV T.aen .nil aB (aa (a6 bV (pv 1) ay (fun _ _ => rfl)) (aa (a6 bV (pv 1) ay (fun _ _ => rfl)) (aa (a6 bV (pv 1) ay (fun _ _ => rfl)) ae)))) ae)))))),?_⟩
  obtain ⟨r,f,n,rfl⟩:=ac2 hf hin (by decide) rfl
  obtain ⟨dh,hH⟩:=R.hs
  obtain ⟨dr,hR⟩:=R.res
  have hq:=eB (K:=K) hp
  have es : Vbahap.step W.st (cG 3 [(r : Int),(f : Int),(n : Int)]) = if Vbahap.MOSTSALES ≤ W.st.views.length then (W.st,[-6]) else (Vbahap.send { W.st with views:=W.st.views ++ [{ r:=r,no:=(W.st.views.filter fun w => w.r == r).length + 1,f:=f,n:=n,cancel:=false,seen:=0,status:=0 }] } [.ask r ((W.st.views.filter fun w => w.r == r).length + 1) f n],[0,(((W.st.views.filter fun w => w.r == r).length + 1 : Nat) : Int)]):=rfl
  rw [es] at k
  refine ⟨_,rfl,W.aH,A.aD,dh,_,_,rfl,hH,T.br,T.gz,kH _ _ _,W.aR,A.bw,dr,_,_,rfl,hR,T.cF,T.gv,kF _ _,W.aS,_,rfl,.inl R.bD,_,_,rfl,rfl,_,rfl,?_⟩
  have el : (bK W.vw).length = W.st.views.length:=by unfold bK Wd.st; rw [List.length_map,List.length_map]
  rw [el]
  refine c7 (fun c => ?_) (fun c => ?_)
  ·have c1 : Vbahap.MOSTSALES ≤ W.st.views.length:=by
    have:=of_decide_eq_true c
    show 40 ≤ _
    omega
   rw [if_pos c1] at k
   refine ⟨(by show 1 ≤ sizeLine; decide),fun b hb => ?_⟩
   exact (aA.refl R).fin hb k rfl rfl
  ·have c1 : ¬ Vbahap.MOSTSALES ≤ W.st.views.length:=fun z => c (decide_eq_true (by
    have z' : 40 ≤ W.st.views.length:=z
    omega))
   rw [if_neg c1] at k
   refine ⟨_,rfl,W.aH,A.aD,dh,_,_,rfl,hH,T.br,T.gz,kH _ _ _,W.aR,dr,_,rfl,hR,jG _ _ (by decide +kernel),_,rfl,p,_,_,_,rfl,rfl,hq,cK,_,rfl,p,_,_,_,rfl,rfl,hq,mF,_,rfl,p,_,_,_,rfl,rfl,hq,ix2,W,r,f,n,rfl,R,g,(by omega),fun H2 W2 po es2 => ?_⟩
   refine ⟨(by show 2 ≤ sizeLine; decide),fun b hb => ?_⟩
   exact po.fin hb k es2 rfl
def UJ (A : Ad) : Sp:=cU A 4
theorem KC (T : Txt w.params K mg A) : aE P w K mg base aQ 4 A.fQ A.rb ["houses","numbers"] (UJ A):=by
 have nd:=HD.nd
 have afd:=Yb (P:=P) (w:=w) (base:=base) T
 have ki:=nv (P:=P) (w:=w) (base:=base) T
 refine T.tJ.ok HD (fun vs H Q E h => ?_) (fun cdv AA outer s H vs Q E hr h => ?_)
 ·obtain ⟨W,l,p,rfl,R,g,hp,hf,hin,hl,_,k⟩:=h
  rfl
 ·obtain ⟨W,l,p,rfl,R,g,hp,hf,hin,hl,_,k⟩:=h
  have abZ : aq 3 _:=hr.mono (by decide)
  have jK : aq 1 _:=hr.mono (by decide)
  have hu:=aZ hr
  refine ⟨_,(au (bI (i:=2) nd rfl (Or.inl rfl) (k9 hu (ai (ai (pv 0) rfl) rfl) (dJ (aa (a6 bV (pv 1) ay (fun _ _ => rfl)) (aa (a6 bV (pv 1) ay (fun _ _ => rfl)) ae))) ⟨rfl,rfl,rfl,rfl⟩))
   (au (bo (bz gu (pv 2) dA (bp _)) (ah (aT (bA (aa (bg T.kR) ae)))) bH)
   (au (bo (PW.pt (mX (de (ai (pv 2) rfl)) (o8 (de (cw ki jK rfl T.mK T.kZ.kp T.om .nil aB (aa (ai (pv 2) rfl) ae)))))) (ah (aT (bA (aa (bg T.C7) ae)))) bH)
   (au (bB (bh (ai (pv 0) rfl) T.cF T.Ld afd abZ T.aer .nil aB (aa (pv 2) ae)))
   (ah (aT (bA (aa ay ae)))))))),?_⟩
  obtain ⟨r,no,rfl⟩:=nX hf hin (by decide) rfl
  obtain ⟨dh,hH⟩:=R.hs
  obtain ⟨dr,hR⟩:=R.res
  have hq:=eB (K:=K) hp
  have es : Vbahap.step W.st (cG 4 [(r : Int),(no : Int)]) = match Vbahap.viewOf W.st r no with | none => (W.st,[-4]) | some w => if w.cancel = true ∨ Vbahap.final w.status = true then (W.st,[-7]) else (Vbahap.send { W.st with views:=W.st.views.map fun x => if x.r = r ∧ x.no = no then { x with cancel:=true } else x } [.can r no],[0]):=rfl
  rw [es] at k
  refine ⟨_,rfl,W.aH,A.aD,dh,_,_,rfl,hH,T.br,T.gz,kH _ _ _,W.aR,A.bw,dr,_,_,rfl,hR,T.cF,T.gv,kF _ _,W.aS,rfl,.inr ⟨_,.inl R.bD⟩,_,rfl,p,_,_,_,rfl,rfl,hq,cK,_,rfl,p,_,_,_,rfl,rfl,hq,mF,(by show 2 ≤ sizeLine; decide),fun q hq2 => ?_⟩
  have s1 : ao H (upd H q (.tup [.int r,.int no])):=aU hq2
  have gd : bL (upd H q (.tup [.int r,.int no])) W.aS (.ref q) (bX (bK W.vw) (bE r no)):=bL.t (k:=bE r no) (s1 _ _ R.bD) af
  have R1:=R.same s1
  generalize upd H q (.tup [.int r,.int no]) = H1 at s1 gd R1 ⊢
  have po1 : aA A.toCs H W H1 W:=aA.pre s1 (aA.refl R1)
  obtain ⟨dh1,hH1⟩:=R1.hs
  obtain ⟨dr1,hR1⟩:=R1.res
  refine ⟨_,gd,?_⟩
  rcases qh W.vw r no with ⟨x,hx,hxr,hxn,hv,hs⟩ | ⟨hv,hs⟩
  ·have vo : Vbahap.viewOf W.st r no = some x.2:=hs
   have ok:=g.vo x.2 (mH hx)
   obtain ⟨dp,hpp⟩:=R1.cv x hx
   rw [hv]
   rw [vo] at k
   dsimp only at k
   refine ⟨_,rfl,rfl,_,rfl,a8 ?_⟩
   refine ⟨_,rfl,x.1,A.aV,dp,_,_,rfl,hpp,T.bP,T.lh,qj _,_,rfl,?_⟩
   have bad : ∀ H2,ao H1 H2 → (x.2.cancel = true ∨ Vbahap.final x.2.status = true) → ∀ b,H2 b = none → Q (.ref b) (upd H2 b (.lst [V.int (-7)])):=fun H2 s2 c b hb => by
    rw [if_pos c] at k
    exact (po1.same s2).fin hb k rfl rfl
   cases hc : x.2.cancel with
   | true =>
     refine bc ?_
     exact ⟨(by show 1 ≤ sizeLine; decide),bad H1 (ao.refl _) (.inl hc)⟩
   | false =>
     refine a8 ?_
     refine ⟨_,rfl,x.1,A.aV,dp,_,_,rfl,hpp,T.bP,T.lj,qk _,x.2.status,rfl,ok.st,fun H2 s2 => ⟨_,rfl,?_⟩⟩
     cases hfi : Vbahap.final x.2.status with
     | true =>
       refine bc ?_
       exact ⟨(by show 1 ≤ sizeLine; decide),bad H2 s2 (.inr hfi)⟩
     | false =>
       refine a8 ?_
       rw [if_neg (by rw [hc,hfi]; simp)] at k
       have R2:=R1.same s2
       obtain ⟨dh2,hH2⟩:=R2.hs
       obtain ⟨dr2,hR2⟩:=R2.res
       refine ⟨_,rfl,W.aH,A.aD,dh2,_,_,rfl,hH2,T.br,T.gz,kH _ _ _,W.aR,dr2,_,rfl,hR2,jG _ _ (by decide +kernel),_,rfl,W,x.1,x.2,rfl,R2,g,hx,(by omega),fun H3 W3 po3 es3 => ?_⟩
       refine ⟨(by show 1 ≤ sizeLine; decide),fun b hb => ?_⟩
       rw [hxr,hxn] at es3
       exact (aA.pre (s1.trans s2) po3).fin hb k es3 rfl
  ·have vo : Vbahap.viewOf W.st r no = none:=hs
   rw [hv]
   rw [vo] at k
   refine ⟨_,rfl,rfl,_,rfl,bc ?_⟩
   refine ⟨(by show 1 ≤ sizeLine; decide),fun b hb => ?_⟩
   exact po1.fin hb k rfl rfl
theorem p6 {W : Wd} {i : Nat} {m : Msg} (h : W.st.net[i]? = some m) : ∃ a,W.ms[i]? = some (a,m):=by
 have h' : (W.ms.map (·.2))[i]? = some m:=h
 rw [List.getElem?_map] at h'
 cases e : W.ms[i]? with
 | none => rw [e] at h'; cases h'
 | some p =>
   rw [e] at h'
   obtain rfl : p.2 = m:=Option.some.inj h'
   exact ⟨p.1,rfl⟩
theorem p5 {W : Wd} {i : Nat} (h : W.st.net[i]? = none) : ¬ i < W.ms.length:=fun z => by
 have h' : (W.ms.map (·.2))[i]? = none:=h
 rw [List.getElem?_map,List.getElem?_eq_getElem z] at h'
 cases h'
def UM (A : Ad) : Sp:=cU A 5
theorem KH (T : Txt w.params K mg A) : aE P w K mg base aQ 8 A.fT A.rj ["houses","numbers"] (UM A):=by
 have nd:=HG.nd
 have kl:=nA (P:=P) (w:=w) (base:=base) T
 have E6:=KQ (P:=P) (w:=w) (base:=base) T
 have E3:=KN (P:=P) (w:=w) (base:=base) T
 refine T.tM.ok HG (fun vs H Q E h => ?_) (fun cdv AA outer s H vs Q E hr h => ?_)
 ·obtain ⟨W,l,p,rfl,R,g,hp,hf,hin,hl,_,k⟩:=h
  rfl
 ·obtain ⟨W,l,p,rfl,R,g,hp,hf,hin,hl,_,k⟩:=h
  have jM : aq 1 _:=hr.mono (by decide)
  have AW : aq 1 _:=hr.mono (by decide)
  have AS : aq 7 _:=hr.mono (by decide)
  have hu:=aZ hr
  refine ⟨_,(au (bo (gp (de (bh (ai (pv 0) rfl) T.bW T.mn kl jM T.oq .nil aB (aa (a6 bV (pv 1) ay (fun _ _ => rfl)) ae)))) (ah (aT (bA (aa (bg T.kR) ae)))) bH)
   (au (bI (i:=2) nd rfl (Or.inl rfl) (ai (ai (pv 0) rfl) rfl))
   (au (bB (cw E3 AS rfl T.Bd T.oJ.kp T.Q4 .nil aB (aa (pv 0) (aa (bh (ai (pv 0) rfl) T.bW T.w4 E6 AW T.Q7 .nil aB (aa (a6 bV (pv 1) ay (fun _ _ => rfl)) ae)) ae))))
   (ah (aT (bA (aa ay (aa (cW lb (ai (ai (pv 0) rfl) rfl) (pv 2)) ae)))))))),?_⟩
  obtain ⟨i,rfl⟩:=lF hf hin (by decide) rfl
  obtain ⟨dh,hH⟩:=R.hs
  obtain ⟨dn,hN⟩:=R.net
  have hq:=eB (K:=K) hp
  have es : Vbahap.step W.st (cG 5 [(i : Int)]) = match W.st.net[i]? with | none => (W.st,[-4]) | some m => (Vbahap.receive { W.st with net:=W.st.net.eraseIdx i } m,Vbahap.grown { W.st with net:=W.st.net.eraseIdx i } (Vbahap.receive { W.st with net:=W.st.net.eraseIdx i } m)):=rfl
  rw [es] at k
  refine ⟨_,rfl,W.aH,A.aD,dh,_,_,rfl,hH,T.br,T.cA,cO _ _ _,W.aN,dn,_,rfl,hN,dY _ _ (by decide +kernel),_,rfl,p,_,_,_,rfl,rfl,hq,cK,W,i,rfl,R,_,rfl,?_⟩
  cases hm : W.st.net[i]? with
  | none =>
    rw [hm] at k
    rw [decide_eq_false (p5 hm)]
    refine bc ?_
    refine ⟨(by show 1 ≤ sizeLine; decide),fun b hb => ?_⟩
    exact (aA.refl R).fin hb k rfl rfl
  | some m =>
    rw [hm] at k
    obtain ⟨a,ha⟩:=p6 hm
    have hlt : i < W.ms.length:=(List.getElem?_eq_some_iff.mp ha).1
    rw [decide_eq_true hlt]
    refine a8 ?_
    refine ⟨_,rfl,W.aH,A.aD,dh,_,_,rfl,hH,T.br,T.cA,cO _ _ _,W.aN,A.a5,dn,_,_,rfl,hN,T.bW,T.eP,jE _ _,?_⟩
    refine ⟨_,rfl,_,rfl,W.aH,A.aD,dh,_,_,rfl,hH,T.br,T.cA,cO _ _ _,W.aN,dn,_,rfl,hN,dY _ _ (by decide +kernel),_,rfl,p,_,_,_,rfl,rfl,hq,cK,W,i,(a,m),rfl,R,ha,(by omega),fun H1 R1 F1 => ?_⟩
    have ms1 : ∀ m' ∈ (W.drop i).st.net,m' ∈ W.st.net:=fun m' h => by
     rw [Wd.Bl] at h
     exact List.mem_of_mem_eraseIdx h
    have e1 : (W.drop i).st = { W.st with net:=W.st.net.eraseIdx i }:=Wd.Bl W i
    have g1 : Good (W.drop i).st:=by rw [e1]; exact qw g i
    have ok : cX (W.drop i).st m:=by
     rw [e1]
     exact cX.mono (fun r no h => h) (fun r no v h => h) (qx g hm)
    have hmt : H1 a = some (.tup (dM m)):=by
     have:=R.dC (a,m) (List.mem_of_getElem? ha)
     refine F1.keep a _ this fun f => ?_
     obtain ⟨o,ho⟩:=R.Nr f
     rcases f with z | z | z | z | z | z | z | z
     ·obtain ⟨d,e⟩:=R.net
      exact cz this e (by show (["t"] : List Str) ≠ (["messages","sent"] : List Str); decide +kernel) z
     ·exact cz this R.msg (by show (["t"] : List Str) ≠ (["l"] : List Str); decide +kernel) z
     ·exact cz this R.bF (by show (["t"] : List Str) ≠ (["k"] : List Str); decide +kernel) z
     ·exact cz this R.bJ (by show (["t"] : List Str) ≠ (["d"] : List Str); decide +kernel) z
     ·exact cz this R.bD (by show (["t"] : List Str) ≠ (["d"] : List Str); decide +kernel) z
     ·obtain ⟨q,hq,e⟩:=List.mem_map.mp z
      obtain ⟨d,e2⟩:=R.cE q hq
      exact cz this e2 (by show (["t"] : List Str) ≠ (["cap","shut"] : List Str); decide +kernel) e.symm
     ·obtain ⟨q,hq,e⟩:=List.mem_map.mp z
      obtain ⟨d,e2⟩:=R.b9 q hq
      exact cz this e2 (by show (["t"] : List Str) ≠ (["r","no","f","seats","stands","version","known"] : List Str); decide +kernel) e.symm
     ·obtain ⟨q,hq,e⟩:=List.mem_map.mp z
      obtain ⟨d,e2⟩:=R.cv q hq
      exact cz this e2 (by show (["t"] : List Str) ≠ (["r","no","f","seats","unwanted","seen","stood"] : List Str); decide +kernel) e.symm
    refine ⟨W.drop i,a,m,rfl,hmt,R1,g1,ok,?_,fun H2 W2 po es2 => ?_⟩
    ·show (W.ms.eraseIdx i).length + 200 < sizeLine
     have:=List.length_eraseIdx_le W.ms i
     omega
    ·obtain ⟨dh2,hH2⟩:=po.rep.hs
     obtain ⟨dn2,hN2⟩:=po.rep.net
     rw [po.fr.adr.aH,po.fr.adr.aN] at hH2
     rw [po.fr.adr.aN] at hN2
     refine ⟨_,rfl,W.aH,A.aD,dh2,_,_,rfl,hH2,T.br,T.cA,cO _ _ _,W.aN,A.a5,dn2,_,_,rfl,hN2,T.bW,T.eP,jE _ _,_,rfl,_,_,rfl,rfl,(by show 2 ≤ sizeLine; decide),fun b hb => ?_⟩
     rw [e1] at es2
     refine (F1.trans po.fr).fin po.rep hb k es2 ?_
     show [V.int 0,V.int (W2.bU - W.bU)] = (Vbahap.grown { W.st with net:=W.st.net.eraseIdx i } _).map V.int
     rw [← es2,← e1,A8 po]
     rfl
end
end Sh
end
section
namespace Sh
open PySem PySem.Spec PyProof.Rows L2
open Vbahap (State Truth View Flight Msg)
theorem Rep.Ge {A : Cs} {H : Hp} {W : Wd} {a : Addr} {xs : List V} (R : Rep A H W) (h : H a = some (.tup xs)) : ¬ W.foot a:=fun f => by
 rcases f with z | z | z | z | z | z | z | z
 ·obtain ⟨d,e⟩:=R.net
  exact cz h e (by show (["t"] : List Str) ≠ (["messages","sent"] : List Str); decide +kernel) z
 ·exact cz h R.msg (by show (["t"] : List Str) ≠ (["l"] : List Str); decide +kernel) z
 ·exact cz h R.bF (by show (["t"] : List Str) ≠ (["k"] : List Str); decide +kernel) z
 ·exact cz h R.bJ (by show (["t"] : List Str) ≠ (["d"] : List Str); decide +kernel) z
 ·exact cz h R.bD (by show (["t"] : List Str) ≠ (["d"] : List Str); decide +kernel) z
 ·obtain ⟨q,hq,e⟩:=List.mem_map.mp z
  obtain ⟨d,e2⟩:=R.cE q hq
  exact cz h e2 (by show (["t"] : List Str) ≠ (["cap","shut"] : List Str); decide +kernel) e.symm
 ·obtain ⟨q,hq,e⟩:=List.mem_map.mp z
  obtain ⟨d,e2⟩:=R.b9 q hq
  exact cz h e2 (by show (["t"] : List Str) ≠ (["r","no","f","seats","stands","version","known"] : List Str); decide +kernel) e.symm
 ·obtain ⟨q,hq,e⟩:=List.mem_map.mp z
  obtain ⟨d,e2⟩:=R.cv q hq
  exact cz h e2 (by show (["t"] : List Str) ≠ (["r","no","f","seats","unwanted","seen","stood"] : List Str); decide +kernel) e.symm
section
variable {P : Program} {w : World} {K : PySem.W.Frag} {mg : Str → Option Value} {base : Heap} {A : Ad}
def UH (A : Ad) : Sp:=cU A 6
theorem Kz (T : Txt w.params K mg A) : aE P w K mg base aQ 2 A.fO A.q4 ["houses","numbers"] (UH A):=by
 have nd:=Hy.nd
 have kl:=nA (P:=P) (w:=w) (base:=base) T
 have E6:=KQ (P:=P) (w:=w) (base:=base) T
 refine T.tH.ok Hy (fun vs H Q E h => ?_) (fun cdv AA outer s H vs Q E hr h => ?_)
 ·obtain ⟨W,l,p,rfl,R,g,hp,hf,hin,hl,_,k⟩:=h
  rfl
 ·obtain ⟨W,l,p,rfl,R,g,hp,hf,hin,hl,_,k⟩:=h
  have jM : aq 1 _:=hr.mono (by decide)
  have AW : aq 1 _:=hr.mono (by decide)
  have hu:=aZ hr
  refine ⟨_,(au (bo (gp (de (bh (ai (pv 0) rfl) T.bW T.mn kl jM T.oq .nil aB (aa (a6 bV (pv 1) ay (fun _ _ => rfl)) ae)))) (ah (aT (bA (aa (bg T.kR) ae)))) bH)
   (au (bB (bh (ai (pv 0) rfl) T.bW T.w4 E6 AW T.Q7 .nil aB (aa (a6 bV (pv 1) ay (fun _ _ => rfl)) ae)))
   (ah (aT (bA (aa ay ae)))))),?_⟩
  obtain ⟨i,rfl⟩:=lF hf hin (by decide) rfl
  obtain ⟨dh,hH⟩:=R.hs
  obtain ⟨dn,hN⟩:=R.net
  have hq:=eB (K:=K) hp
  have es : Vbahap.step W.st (cG 6 [(i : Int)]) = match W.st.net[i]? with | none => (W.st,[-4]) | some m => ({ W.st with net:=W.st.net.eraseIdx i },[0]):=rfl
  rw [es] at k
  refine ⟨_,rfl,W.aH,A.aD,dh,_,_,rfl,hH,T.br,T.cA,cO _ _ _,W.aN,dn,_,rfl,hN,dY _ _ (by decide +kernel),_,rfl,p,_,_,_,rfl,rfl,hq,cK,W,i,rfl,R,_,rfl,?_⟩
  cases hm : W.st.net[i]? with
  | none =>
    rw [hm] at k
    rw [decide_eq_false (p5 hm)]
    refine bc ?_
    refine ⟨(by show 1 ≤ sizeLine; decide),fun b hb => ?_⟩
    exact (aA.refl R).fin hb k rfl rfl
  | some m =>
    rw [hm] at k
    obtain ⟨a,ha⟩:=p6 hm
    have hlt : i < W.ms.length:=(List.getElem?_eq_some_iff.mp ha).1
    rw [decide_eq_true hlt]
    refine a8 ?_
    refine ⟨_,rfl,W.aH,A.aD,dh,_,_,rfl,hH,T.br,T.cA,cO _ _ _,W.aN,dn,_,rfl,hN,dY _ _ (by decide +kernel),_,rfl,p,_,_,_,rfl,rfl,hq,cK,W,i,(a,m),rfl,R,ha,(by omega),fun H1 R1 F1 => ?_⟩
    refine ⟨(by show 1 ≤ sizeLine; decide),fun b hb => ?_⟩
    exact F1.fin R1 hb k (Wd.Bl W i) rfl
def UL (A : Ad) : Sp:=cU A 7
theorem KG (T : Txt w.params K mg A) : aE P w K mg base aQ 2 A.fS A.rh ["houses","numbers"] (UL A):=by
 have nd:=HF.nd
 have kl:=nA (P:=P) (w:=w) (base:=base) T
 have kj:=ny (P:=P) (w:=w) (base:=base) T
 refine T.tL.ok HF (fun vs H Q E h => ?_) (fun cdv AA outer s H vs Q E hr h => ?_)
 ·obtain ⟨W,l,p,rfl,R,g,hp,hf,hin,hl,_,k⟩:=h
  rfl
 ·obtain ⟨W,l,p,rfl,R,g,hp,hf,hin,hl,_,k⟩:=h
  have jM : aq 1 _:=hr.mono (by decide)
  have jL : aq 1 _:=hr.mono (by decide)
  have hu:=aZ hr
  refine ⟨_,(au (bo (gp (de (bh (ai (pv 0) rfl) T.bW T.mn kl jM T.oq .nil aB (aa (a6 bV (pv 1) ay (fun _ _ => rfl)) ae)))) (ah (aT (bA (aa (bg T.kR) ae)))) bH)
   (au (bo (bz pV (dB fZ (by rfl) T.dX PySem.boot_len (aa (ai (ai (pv 0) rfl) rfl) ae)) (bg T.QO) (bp _)) (ah (aT (bA (aa (bg T.sD) ae)))) bH)
   (au (bB (bh (ai (pv 0) rfl) T.bW T.mm kj jL T.oo .nil aB (aa (a6 bV (ai (ai (pv 0) rfl) rfl) (a6 bV (pv 1) ay (fun _ _ => rfl)) (fun _ _ => rfl)) ae)))
   (ah (aT (bA (aa ay ae))))))),?_⟩
  obtain ⟨i,rfl⟩:=lF hf hin (by decide) rfl
  obtain ⟨dh,hH⟩:=R.hs
  obtain ⟨dn,hN⟩:=R.net
  have hq:=eB (K:=K) hp
  have es : Vbahap.step W.st (cG 7 [(i : Int)]) = match W.st.net[i]? with | none => (W.st,[-4]) | some m => if Vbahap.MOSTNET ≤ W.st.net.length then (W.st,[-6]) else (Vbahap.send W.st [m],[0]):=rfl
  rw [es] at k
  refine ⟨_,rfl,W.aH,A.aD,dh,_,_,rfl,hH,T.br,T.cA,cO _ _ _,W.aN,dn,_,rfl,hN,dY _ _ (by decide +kernel),_,rfl,p,_,_,_,rfl,rfl,hq,cK,W,i,rfl,R,_,rfl,?_⟩
  cases hm : W.st.net[i]? with
  | none =>
    rw [hm] at k
    rw [decide_eq_false (p5 hm)]
    refine bc ?_
    refine ⟨(by show 1 ≤ sizeLine; decide),fun b hb => ?_⟩
    exact (aA.refl R).fin hb k rfl rfl
  | some m =>
    rw [hm] at k
    obtain ⟨a,ha⟩:=p6 hm
    have hlt : i < W.ms.length:=(List.getElem?_eq_some_iff.mp ha).1
    rw [decide_eq_true hlt]
    refine a8 ?_
    refine ⟨_,rfl,W.aH,A.aD,dh,_,_,rfl,hH,T.br,T.cA,cO _ _ _,W.aN,A.a5,dn,_,_,rfl,hN,T.bW,T.fz,kG _ _,W.aM,_,rfl,.inl (az.of R.msg),_,_,rfl,rfl,_,rfl,?_⟩
    have el : (bO W.ms).length = W.st.net.length:=by unfold bO Wd.st; rw [List.length_map,List.length_map]
    rw [el]
    dsimp only at k
    refine c7 (fun c => ?_) (fun c => ?_)
    ·have c1 : Vbahap.MOSTNET ≤ W.st.net.length:=by
      have:=of_decide_eq_true c
      show 200 ≤ _
      omega
     rw [if_pos c1] at k
     refine ⟨(by show 1 ≤ sizeLine; decide),fun b hb => ?_⟩
     exact (aA.refl R).fin hb k rfl rfl
    ·have c1 : ¬ Vbahap.MOSTNET ≤ W.st.net.length:=fun z => c (decide_eq_true (by
      have z' : 200 ≤ W.st.net.length:=z
      omega))
     rw [if_neg c1] at k
     have hma : (bO W.ms)[i]? = some (V.ref a):=by unfold bO; rw [List.getElem?_map,ha]; rfl
     refine ⟨_,rfl,W.aH,A.aD,dh,_,_,rfl,hH,T.br,T.cA,cO _ _ _,W.aN,dn,_,rfl,hN,dY _ _ (by decide +kernel),_,rfl,W.aH,A.aD,dh,_,_,rfl,hH,T.br,T.cA,cO _ _ _,W.aN,A.a5,dn,_,_,rfl,hN,T.bW,T.fz,kG _ _,_,rfl,p,_,_,_,rfl,rfl,hq,cK,W.aM,_,_,_,rfl,rfl,az.of R.msg,ef hma,?_⟩
     refine ⟨W,a,m,rfl,R,R.dC (a,m) (List.mem_of_getElem? ha),(by omega),fun H1 R1 F1 => ?_⟩
     refine ⟨(by show 1 ≤ sizeLine; decide),fun b hb => ?_⟩
     exact F1.fin R1 hb k (Wd.fq _ _ _) rfl
def UP (A : Ad) : Sp:=cU A 8
theorem KL (T : Txt w.params K mg A) : aE P w K mg base aQ 5 A.fW A.rm ["houses","numbers"] (UP A):=by
 have nd:=HJ.nd
 have E1:=Ko (P:=P) (w:=w) (base:=base) T
 refine T.tP.ok HJ (fun vs H Q E h => ?_) (fun cdv AA outer s H vs Q E hr h => ?_)
 ·obtain ⟨W,l,p,rfl,R,g,hp,hf,hin,hl,_,k⟩:=h
  rfl
 ·obtain ⟨W,l,p,rfl,R,g,hp,hf,hin,hl,_,k⟩:=h
  have AQ : aq 4 _:=hr.mono (by decide)
  have hu:=aZ hr
  refine ⟨_,(au (bI (i:=2) nd rfl (Or.inl rfl) (ai (ai (pv 0) rfl) rfl))
   (au (bB (cw E1 AQ rfl T.Bb T.oH.kp T.QZ .nil aB (aa (pv 0) ae)))
   (ah (aT (bA (aa ay (aa (cW lb (ai (ai (pv 0) rfl) rfl) (pv 2)) ae))))))),?_⟩
  obtain ⟨dh,hH⟩:=R.hs
  obtain ⟨dn,hN⟩:=R.net
  have es : Vbahap.step W.st (cG 8 l) = (Vbahap.send W.st (Vbahap.again W.st),[0,Int.ofNat (Vbahap.again W.st).length]):=rfl
  rw [es] at k
  refine ⟨_,rfl,W.aH,A.aD,dh,_,_,rfl,hH,T.br,T.cA,cO _ _ _,W.aN,A.a5,dn,_,_,rfl,hN,T.bW,T.eP,jE _ _,?_⟩
  refine ⟨_,rfl,W,rfl,R,g,(by omega),fun H2 W2 po es2 => ?_⟩
  obtain ⟨dh2,hH2⟩:=po.rep.hs
  obtain ⟨dn2,hN2⟩:=po.rep.net
  rw [po.fr.adr.aH,po.fr.adr.aN] at hH2
  rw [po.fr.adr.aN] at hN2
  refine ⟨_,rfl,W.aH,A.aD,dh2,_,_,rfl,hH2,T.br,T.cA,cO _ _ _,W.aN,A.a5,dn2,_,_,rfl,hN2,T.bW,T.eP,jE _ _,_,rfl,_,_,rfl,rfl,(by show 2 ≤ sizeLine; decide),fun b hb => ?_⟩
  refine po.fin hb k es2 ?_
  have e1 : W2.ms.length = W.ms.length + (Vbahap.again W.st).length:=by
   rw [← kI W2,← kI W,es2]
   show (W.st.net ++ Vbahap.again W.st).length = _
   rw [List.length_append]
  have e2 : W2.bU - W.bU = Int.ofNat (Vbahap.again W.st).length:=by
   have:=po.cnt
   rw [e1] at this
   show W2.bU - W.bU = ((Vbahap.again W.st).length : Int)
   omega
  show [V.int 0,V.int (W2.bU - W.bU)] = _
  rw [e2]
  rfl
def Ux (A : Ad) : Sp:=cU A 10
theorem Kq (T : Txt w.params K mg A) : aE P w K mg base aQ 1 A.fF A.qS ["houses","numbers"] (Ux A):=by
 have nd:=Hn.nd
 refine T.tm.ok Hn (fun vs H Q E h => ?_) (fun cdv AA outer s H vs Q E hr h => ?_)
 ·obtain ⟨W,l,p,rfl,R,g,hp,hf,hin,hl,_,k⟩:=h
  rfl
 ·obtain ⟨W,l,p,rfl,R,g,hp,hf,hin,hl,_,k⟩:=h
  have hu:=aZ hr
  refine ⟨_,(au (bI (i:=2) nd rfl (Or.inl rfl) (k9 hu (ai (ai (pv 0) rfl) rfl) (dJ (aa (a6 bV (pv 1) ay (fun _ _ => rfl)) (aa (a6 bV (pv 1) ay (fun _ _ => rfl)) ae))) ⟨rfl,rfl,rfl,rfl⟩))
   (au (bo (bz gu (pv 2) dA (bp _)) (ah (aT (bA (aa (bg T.kR) ae)))) bH)
   (ah (aT (bA (aa ay (aa (ai (pv 2) rfl) (aa (ai (pv 2) rfl) (aa (lZ (de (ai (pv 2) rfl)) ay ay) (aa (ai (pv 2) rfl) (aa (ai (pv 2) rfl) ae))))))))))),?_⟩
  obtain ⟨r,no,rfl⟩:=nX hf hin (by decide) rfl
  obtain ⟨dh,hH⟩:=R.hs
  obtain ⟨dr,hR⟩:=R.res
  have hq:=eB (K:=K) hp
  have es : Vbahap.step W.st (cG 10 [(r : Int),(no : Int)]) = match Vbahap.viewOf W.st r no with | none => (W.st,[-4]) | some w => (W.st,[0,(w.seen : Int),(w.status : Int),if w.cancel = true then 1 else 0,(w.f : Int),(w.n : Int)]):=rfl
  rw [es] at k
  refine ⟨_,rfl,W.aH,A.aD,dh,_,_,rfl,hH,T.br,T.gz,kH _ _ _,W.aR,A.bw,dr,_,_,rfl,hR,T.cF,T.gv,kF _ _,W.aS,rfl,.inr ⟨_,.inl R.bD⟩,_,rfl,p,_,_,_,rfl,rfl,hq,cK,_,rfl,p,_,_,_,rfl,rfl,hq,mF,(by show 2 ≤ sizeLine; decide),fun q hq2 => ?_⟩
  have s1 : ao H (upd H q (.tup [.int r,.int no])):=aU hq2
  have gd : bL (upd H q (.tup [.int r,.int no])) W.aS (.ref q) (bX (bK W.vw) (bE r no)):=bL.t (k:=bE r no) (s1 _ _ R.bD) af
  have R1:=R.same s1
  generalize upd H q (.tup [.int r,.int no]) = H1 at s1 gd R1 ⊢
  have po1 : aA A.toCs H W H1 W:=aA.pre s1 (aA.refl R1)
  refine ⟨_,gd,?_⟩
  rcases qh W.vw r no with ⟨x,hx,hxr,hxn,hv,hs⟩ | ⟨hv,hs⟩
  ·have vo : Vbahap.viewOf W.st r no = some x.2:=hs
   obtain ⟨dp,hpp⟩:=R1.cv x hx
   rw [hv]
   rw [vo] at k
   refine ⟨_,rfl,rfl,_,rfl,a8 ?_⟩
   refine ⟨_,rfl,x.1,A.aV,dp,_,_,rfl,hpp,T.bP,T.gw,lx _,_,rfl,x.1,A.aV,dp,_,_,rfl,hpp,T.bP,T.lj,qk _,_,rfl,x.1,A.aV,dp,_,_,rfl,hpp,T.bP,T.lh,qj _,_,rfl,?_⟩
   cases hc : x.2.cancel with
   | true =>
     refine bc ?_
     refine ⟨_,rfl,x.1,A.aV,dp,_,_,rfl,hpp,T.bP,T.nO,xi _,_,rfl,x.1,A.aV,dp,_,_,rfl,hpp,T.bP,T.nM,xg _,(by show 6 ≤ sizeLine; decide),fun b hb => ?_⟩
     refine po1.fin hb k rfl ?_
     show _ = List.map V.int [0,(x.2.seen : Int),(x.2.status : Int),if x.2.cancel = true then 1 else 0,(x.2.f : Int),(x.2.n : Int)]
     rw [hc]
     rfl
   | false =>
     refine a8 ?_
     refine ⟨_,rfl,x.1,A.aV,dp,_,_,rfl,hpp,T.bP,T.nO,xi _,_,rfl,x.1,A.aV,dp,_,_,rfl,hpp,T.bP,T.nM,xg _,(by show 6 ≤ sizeLine; decide),fun b hb => ?_⟩
     refine po1.fin hb k rfl ?_
     show _ = List.map V.int [0,(x.2.seen : Int),(x.2.status : Int),if x.2.cancel = true then 1 else 0,(x.2.f : Int),(x.2.n : Int)]
     rw [hc]
     rfl
  ·have vo : Vbahap.viewOf W.st r no = none:=hs
   rw [hv]
   rw [vo] at k
   refine ⟨_,rfl,rfl,_,rfl,bc ?_⟩
   refine ⟨(by show 1 ≤ sizeLine; decide),fun b hb => ?_⟩
   exact po1.fin hb k rfl rfl
def Uy (A : Ad) : Sp:=cU A 11
theorem Kr (T : Txt w.params K mg A) : aE P w K mg base aQ 1 A.fG A.qT ["houses","numbers"] (Uy A):=by
 have nd:=Ho.nd
 refine T.tp.ok Ho (fun vs H Q E h => ?_) (fun cdv AA outer s H vs Q E hr h => ?_)
 ·obtain ⟨W,l,p,rfl,R,g,hp,hf,hin,hl,_,k⟩:=h
  rfl
 ·obtain ⟨W,l,p,rfl,R,g,hp,hf,hin,hl,_,k⟩:=h
  have hu:=aZ hr
  refine ⟨_,(au (bI (i:=2) nd rfl (Or.inl rfl) (k9 hu (ai (ai (pv 0) rfl) rfl) (dJ (aa (a6 bV (pv 1) ay (fun _ _ => rfl)) (aa (a6 bV (pv 1) ay (fun _ _ => rfl)) ae))) ⟨rfl,rfl,rfl,rfl⟩))
   (au (bo (bz gu (pv 2) dA (bp _)) (ah (aT (bA (aa (bg T.kR) ae)))) bH)
   (ah (aT (bA (aa ay (aa (ai (pv 2) rfl) (aa (ai (pv 2) rfl) (aa (ai (pv 2) rfl) ae))))))))),?_⟩
  obtain ⟨r,no,rfl⟩:=nX hf hin (by decide) rfl
  obtain ⟨dh,hH⟩:=R.hs
  obtain ⟨di,hI⟩:=R.inv
  have hq:=eB (K:=K) hp
  have es : Vbahap.step W.st (cG 11 [(r : Int),(no : Int)]) = match Vbahap.truthOf W.st r no with | none => (W.st,[-4]) | some t => (W.st,[0,(t.version : Int),(t.status : Int),(t.acked : Int)]):=rfl
  rw [es] at k
  refine ⟨_,rfl,W.aH,A.aD,dh,_,_,rfl,hH,T.br,T.dq,dO _ _ _,W.aI,A.aG,di,_,_,rfl,hI,T.bb,T.fA,jF _ _ _,W.aK,rfl,.inr ⟨_,.inl R.bJ⟩,_,rfl,p,_,_,_,rfl,rfl,hq,cK,_,rfl,p,_,_,_,rfl,rfl,hq,mF,(by show 2 ≤ sizeLine; decide),fun q hq2 => ?_⟩
  have s1 : ao H (upd H q (.tup [.int r,.int no])):=aU hq2
  have gd : bL (upd H q (.tup [.int r,.int no])) W.aK (.ref q) (bX (bY W.tr) (bE r no)):=bL.t (k:=bE r no) (s1 _ _ R.bJ) af
  have R1:=R.same s1
  generalize upd H q (.tup [.int r,.int no]) = H1 at s1 gd R1 ⊢
  have po1 : aA A.toCs H W H1 W:=aA.pre s1 (aA.refl R1)
  refine ⟨_,gd,?_⟩
  rcases mw W.tr r no with ⟨x,hx,hxr,hxn,hv,hs⟩ | ⟨hv,hs⟩
  ·have vo : Vbahap.truthOf W.st r no = some x.2:=hs
   obtain ⟨dp,hpp⟩:=R1.b9 x hx
   rw [hv]
   rw [vo] at k
   refine ⟨_,rfl,rfl,_,rfl,a8 ?_⟩
   refine ⟨_,rfl,x.1,A.aP,dp,_,_,rfl,hpp,T.bM,T.gx,ly _,_,rfl,x.1,A.aP,dp,_,_,rfl,hpp,T.bM,T.gy,lz _,_,rfl,x.1,A.aP,dp,_,_,rfl,hpp,T.bM,T.lp,qm _,(by show 4 ≤ sizeLine; decide),fun b hb => ?_⟩
   exact po1.fin hb k rfl rfl
  ·have vo : Vbahap.truthOf W.st r no = none:=hs
   rw [hv]
   rw [vo] at k
   refine ⟨_,rfl,rfl,_,rfl,bc ?_⟩
   refine ⟨(by show 1 ≤ sizeLine; decide),fun b hb => ?_⟩
   exact po1.fin hb k rfl rfl
def UD (A : Ad) : Sp:=cU A 12
theorem Kw (T : Txt w.params K mg A) : aE P w K mg base aQ 3 A.fL A.qY ["houses","numbers"] (UD A):=by
 have nd:=Hu.nd
 have oG:=vQ (P:=P) (w:=w) (base:=base) T
 refine T.tE.ok Hu (fun vs H Q E h => ?_) (fun cdv AA outer s H vs Q E hr h => ?_)
 ·obtain ⟨W,l,p,rfl,R,g,hp,hf,hin,hl,_,k⟩:=h
  rfl
 ·obtain ⟨W,l,p,rfl,R,g,hp,hf,hin,hl,_,k⟩:=h
  have nU : aq 2 _:=hr.mono (by decide)
  have hu:=aZ hr
  refine ⟨_,(au (bI (i:=2) nd rfl (Or.inl rfl) (k9 hu (ai (ai (pv 0) rfl) rfl) (a6 bV (pv 1) ay (fun _ _ => rfl)) ⟨rfl,rfl,rfl,rfl⟩))
   (au (bo (bz gu (pv 2) dA (bp _)) (ah (aT (bA (aa (bg T.sx) ae)))) bH)
   (ah (aT (bA (aa ay (aa (ai (pv 2) rfl) (aa (bh (ai (pv 0) rfl) T.bb T.qg oG nU T.Du .nil aB (aa (a6 bV (pv 1) ay (fun _ _ => rfl)) ae)) (aa (lZ (de (ai (pv 2) rfl)) ay ay) ae))))))))),?_⟩
  obtain ⟨f,rfl⟩:=lF hf hin (by decide) rfl
  obtain ⟨dh,hH⟩:=R.hs
  obtain ⟨di,hI⟩:=R.inv
  have hq:=eB (K:=K) hp
  have es : Vbahap.step W.st (cG 12 [(f : Int)]) = match Vbahap.flightOf W.st f with | none => (W.st,[-3]) | some x => (W.st,[0,(x.cap : Int),(Vbahap.heldOn W.st f : Int),if x.shut = true then 1 else 0]):=rfl
  rw [es] at k
  refine ⟨_,rfl,W.aH,A.aD,dh,_,_,rfl,hH,T.br,T.dq,dO _ _ _,W.aI,A.aG,di,_,_,rfl,hI,T.bb,T.eC,fB _ _ _,W.aF,rfl,.inl ⟨_,.inl R.bF⟩,_,rfl,p,_,_,_,rfl,rfl,hq,cK,_,bL.k (k:=Sum.inl (f : Int)) R.bF,?_⟩
  rcases lu W.fl f with ⟨x,hx,hxf,hv,hs⟩ | ⟨hv,hs⟩
  ·have fo : Vbahap.flightOf W.st f = some x.2:=hs
   obtain ⟨dp,hpp⟩:=R.cE x hx
   rw [hv]
   rw [fo] at k
   refine ⟨_,rfl,rfl,_,rfl,a8 ?_⟩
   refine ⟨_,rfl,x.1,A.bS,dp,_,_,rfl,hpp,T.fY,T.l8,xm _,_,rfl,W.aH,A.aD,dh,_,_,rfl,hH,T.br,T.dq,dO _ _ _,W.aI,di,_,rfl,hI,bR _ _ _ (by decide +kernel),_,rfl,p,_,_,_,rfl,rfl,hq,cK,W,f,rfl,R,lA (fg g),fun H1 s1 => ?_⟩
   have po1 : aA A.toCs H W H1 W:=(aA.refl R).same s1
   refine ⟨_,rfl,x.1,A.bS,dp,_,_,rfl,s1 _ _ hpp,T.fY,T.l7,xl _,_,rfl,?_⟩
   cases hc : x.2.shut with
   | true =>
     refine bc ?_
     refine ⟨(by show 4 ≤ sizeLine; decide),fun b hb => ?_⟩
     refine po1.fin hb k rfl ?_
     show _ = List.map V.int [0,(x.2.cap : Int),(Vbahap.heldOn W.st f : Int),if x.2.shut = true then 1 else 0]
     rw [hc]
     rfl
   | false =>
     refine a8 ?_
     refine ⟨(by show 4 ≤ sizeLine; decide),fun b hb => ?_⟩
     refine po1.fin hb k rfl ?_
     show _ = List.map V.int [0,(x.2.cap : Int),(Vbahap.heldOn W.st f : Int),if x.2.shut = true then 1 else 0]
     rw [hc]
     rfl
  ·have fo : Vbahap.flightOf W.st f = none:=hs
   rw [hv]
   rw [fo] at k
   refine ⟨_,rfl,rfl,_,rfl,bc ?_⟩
   refine ⟨(by show 1 ≤ sizeLine; decide),fun b hb => ?_⟩
   exact (aA.refl R).fin hb k rfl rfl
def nS (l : List Truth) : List Int:=l.flatMap fun t => [(t.r : Int),(t.no : Int),(t.n : Int)]
def UI (A : Ad) : Sp:=cU A 13
theorem KA (T : Txt w.params K mg A) : aE P w K mg base aQ 2 A.fP A.q5 ["houses","numbers"] (UI A):=by
 have nd:=Hz.nd
 have ko:=nF (P:=P) (w:=w) (base:=base) T
 refine T.tI.ok Hz (fun vs H Q E h => ?_) (fun cdv AA outer s H vs Q E hr h => ?_)
 ·obtain ⟨W,l,p,rfl,R,g,hp,hf,hin,hl,_,k⟩:=h
  rfl
 ·obtain ⟨W,l,p,rfl,R,g,hp,hf,hin,hl,_,k⟩:=h
  have jO : aq 1 _:=hr.mono (by decide)
  have hu:=aZ hr
  refine ⟨_,(au (bo (m4 (Kk hu (a6 bV (pv 1) ay (fun _ _ => rfl)) (ai (ai (pv 0) rfl) rfl))) (ah (aT (bA (aa (bg T.sx) ae)))) bH)
   (au (bI (i:=2) nd rfl (Or.inl rfl) (bA (aa ay ae)))
   (au (dz PassesOwn.never rfl (fu (bh (ai (pv 0) rfl) T.bb T.mr ko jO T.ou .nil aB (aa (a6 bV (pv 1) ay (fun _ _ => rfl)) (aa (bg T.oa) ae)))) (ck (i:=3) nd rfl (Or.inl rfl))
    (ah (bB (gr PySem.F.plainAttrs_list PySem.F.slot_list_extend PySem.F.type_list_extend K6 (pv 2) (aa (bA (aa (ai (pv 3) rfl) (aa (ai (pv 3) rfl) (aa (ai (pv 3) rfl) ae)))) ae)))))
   (ah (aT (pv 2)))))),?_⟩
  obtain ⟨f,rfl⟩:=lF hf hin (by decide) rfl
  obtain ⟨dh,hH⟩:=R.hs
  obtain ⟨di,hI⟩:=R.inv
  have hq:=eB (K:=K) hp
  have hT:=fg g
  have es : Vbahap.step W.st (cG 13 [(f : Int)]) = match Vbahap.flightOf W.st f with | none => (W.st,[-3]) | some x => (W.st,0 :: nS (Vbahap.waitingOn W.st f)):=rfl
  rw [es] at k
  refine ⟨_,rfl,p,_,_,_,rfl,rfl,hq,cK,_,rfl,W.aH,A.aD,dh,_,_,rfl,hH,T.br,T.dq,dO _ _ _,W.aI,A.aG,di,_,_,rfl,hI,T.bb,T.eC,fB _ _ _,W.aF,_,rfl,bL.k (k:=Sum.inl (f : Int)) R.bF,_,rfl,?_⟩
  rcases lu W.fl f with ⟨x,hx,hxf,hv,hs⟩ | ⟨hv,hs⟩
  ·have fo : Vbahap.flightOf W.st f = some x.2:=hs
   rw [hv]
   rw [fo] at k
   refine a8 ?_
   refine ⟨(by show 1 ≤ sizeLine; decide),fun b hb => ?_⟩
   have s1 : ao H (upd H b (.lst [V.int 0])):=aU hb
   have R1:=R.same s1
   have hb1 : upd H b (.lst [V.int 0]) b = some (.lst [V.int 0]):=af
   have ob : ¬ W.foot b:=R.kN hb
   generalize upd H b (.lst [V.int 0]) = H1 at s1 R1 hb1 ⊢
   obtain ⟨dh1,hH1⟩:=R1.hs
   obtain ⟨di1,hI1⟩:=R1.inv
   have hq1:=s1.seq hq
   refine ⟨_,rfl,W.aH,A.aD,dh1,_,_,rfl,hH1,T.br,T.dq,dO _ _ _,W.aI,di1,_,rfl,hI1,bR _ _ _ (by decide +kernel),_,rfl,p,_,_,_,rfl,rfl,hq1,cK,W,f,2,rfl,R1,lA hT,fun D hD => ?_⟩
   have ew : (W.tr.filter fun p => a9 f 2 p.2).map (·.2) = Vbahap.waitingOn W.st f:=(tY W f).symm
   have nbD : b ≠ D:=bj hb1 hD
   have hLm : ∀ p ∈ W.tr.filter (fun p => a9 f 2 p.2),p ∈ W.tr:=fun p hp => (List.mem_filter.mp hp).1
   have hLl : (W.tr.filter fun p => a9 f 2 p.2).length ≤ 40:=Nat.le_trans (List.length_filter_le _ _) hT
   have s2 : ao H1 (upd H1 D (.lst (refs (W.tr.filter fun p => a9 f 2 p.2)))):=aU hD
   have hD2 : upd H1 D (.lst (refs (W.tr.filter fun p => a9 f 2 p.2))) D = some (.lst (refs (W.tr.filter fun p => a9 f 2 p.2))):=af
   generalize upd H1 D (.lst (refs (W.tr.filter fun p => a9 f 2 p.2))) = H2 at s2 hD2 ⊢
   generalize W.tr.filter (fun p => a9 f 2 p.2) = L at hD2 ew hLm hLl ⊢
   have R2:=R1.same s2
   have hb2:=s2 _ _ hb1
   refine ⟨D,rfl,⟨_,az.of hD2⟩,jQ (K:=K) (a:=D) (xs:=refs L) (fun i σ H' => ∃ (v : Option V),σ = [some (.ref W.aH),some (.ref p),some (.ref b),v] ∧ (∀ c o,H2 c = some o → c ≠ b → H' c = some o) ∧ H' b = some (.lst ((0 :: nS ((L.take i).map (·.2))).map V.int))) ?_ ?_ ?_ ?_⟩
   ·exact ⟨none,rfl,fun c o e _ => e,hb2⟩
   ·rintro i σ H' _ ⟨v,_,kp,_⟩
    exact az.of (kp D _ hD2 nbD.symm)
   ·rintro i y σ H' hi ⟨v,rfl,kp,hbb⟩
    obtain ⟨t,ht,rfl⟩:=dk hi
    have htm : t ∈ L:=List.mem_of_getElem? ht
    obtain ⟨dt,htt⟩:=R2.b9 t (hLm t htm)
    have ntb : t.1 ≠ b:=cz htt hb2 (by show (["r","no","f","seats","stands","version","known"] : List Str) ≠ (["l"] : List Str); decide +kernel)
    have htt':=kp _ _ htt ntb
    have hlt:=(List.getElem?_eq_some_iff.mp ht).1
    have ll : ((0 :: nS ((L.take i).map (·.2))).map V.int).length ≤ 200:=by
     unfold nS
     rw [List.length_map,List.length_cons,Nt,List.length_map,List.length_take]
     omega
    refine ⟨_,rfl,.inl ⟨rfl,_,az.of hbb⟩,_,rfl,t.1,A.aP,dt,_,_,rfl,htt',T.bM,T.p9,Lr _,_,rfl,t.1,A.aP,dt,_,_,rfl,htt',T.bM,T.qb,Ls _,_,rfl,t.1,A.aP,dt,_,_,rfl,htt',T.bM,T.nP,xj _,(by show 3 ≤ sizeLine; decide),fun e he => ?_⟩
    have nbe : b ≠ e:=bj hbb he
    refine ⟨b,e,_,_,rfl,rfl,(by rw [ag nbe]; exact hbb),af,(by rw [sizeLine_eq]; show _ + 3 ≤ _; omega),?_⟩
    refine ⟨_,rfl,fun c o ec nc => ?_,?_⟩
    ·have hc':=kp c o ec nc
     rw [ag nc,ag (bj hc' he)]
     exact hc'
    ·rw [af,take_snoc ht,List.map_append]
     unfold nS
     rw [List.flatMap_append,← List.cons_append,List.map_append]
     rfl
   ·rintro σ H' ⟨v,rfl,kp,hbb⟩
    have e2 : (refs L).length = L.length:=by unfold refs; rw [List.length_map]
    rw [e2,List.take_length,ew] at hbb
    refine ⟨_,rfl,?_⟩
    have F : aO H W H' W:=⟨fun c o e n => kp c o (s2 _ _ (s1 _ _ e)) (fun z => by rw [z,hb] at e; cases e),fun c fc => .inl fc,e7.refl W⟩
    have R' : Rep A.toCs H' W:=R.same fun c o e => kp c o (s2 _ _ (s1 _ _ e)) (fun z => by rw [z,hb] at e; cases e)
    exact k H' W b R' F rfl (fun c o e _ z => by rw [z,hb] at e; cases e) hbb
  ·have fo : Vbahap.flightOf W.st f = none:=hs
   rw [hv]
   rw [fo] at k
   refine bc ?_
   refine ⟨(by show 1 ≤ sizeLine; decide),fun b hb => ?_⟩
   exact (aA.refl R).fin hb k rfl rfl
def UG (A : Ad) : Sp:=cU A 14
theorem Ky (T : Txt w.params K mg A) : aE P w K mg base aQ 1 A.fN A.q0 ["houses","numbers"] (UG A):=by
 have nd:=Hw.nd
 refine T.tG.ok Hw (fun vs H Q E h => ?_) (fun cdv AA outer s H vs Q E hr h => ?_)
 ·obtain ⟨W,l,p,rfl,R,g,hp,hf,hin,hl,_,k⟩:=h
  rfl
 ·obtain ⟨W,l,p,rfl,R,g,hp,hf,hin,hl,_,k⟩:=h
  have hu:=aZ hr
  refine ⟨_,(ah (aT (bA (aa ay (aa (dB fZ (by rfl) T.dX PySem.boot_len (aa (ai (ai (pv 0) rfl) rfl) ae)) ae))))),?_⟩
  obtain ⟨dh,hH⟩:=R.hs
  obtain ⟨dn,hN⟩:=R.net
  have es : Vbahap.step W.st (cG 14 l) = (W.st,[0,(W.st.net.length : Int)]):=rfl
  rw [es] at k
  refine ⟨_,rfl,W.aH,A.aD,dh,_,_,rfl,hH,T.br,T.cA,cO _ _ _,W.aN,A.a5,dn,_,_,rfl,hN,T.bW,T.fz,kG _ _,W.aM,_,rfl,.inl (az.of R.msg),(by show 2 ≤ sizeLine; decide),fun b hb => ?_⟩
  refine (aA.refl R).fin hb k rfl ?_
  have el : (bO W.ms).length = W.st.net.length:=by unfold bO Wd.st; rw [List.length_map,List.length_map]
  show [V.int 0,V.int ((bO W.ms).length : Int)] = _
  rw [el]
  rfl
end
end Sh
end
section
namespace Sh
open PySem PySem.Spec PyProof.Rows L2
open Vbahap (State Truth View Flight Msg)
section
variable {P : Program} {w : World} {K : PySem.W.Frag} {mg : Str → Option Value} {base : Heap} {A : Ad}
theorem WK (s : State) (v : View) : Vbahap.settledOne s v = match Vbahap.truthOf s v.r v.no with | none => false | some t => eM v t:=rfl
def UB (A : Ad) : Sp:=cU A 17
theorem Ku (T : Txt w.params K mg A) : aE P w K mg base aQ 3 A.fJ A.qW ["houses","numbers"] (UB A):=by
 have nd:=Hs.nd
 have ae7:=X4 (P:=P) (w:=w) (base:=base) T
 refine T.tw.ok Hs (fun vs H Q E h => ?_) (fun cdv AA outer s H vs Q E hr h => ?_)
 ·obtain ⟨W,l,p,rfl,R,g,hp,hf,hin,hl,_,k⟩:=h
  rfl
 ·obtain ⟨W,l,p,rfl,R,g,hp,hf,hin,hl,_,k⟩:=h
  have abT : aq 2 _:=hr.mono (by decide)
  have hu:=aZ hr
  refine ⟨_,(au (Xw (dz PassesOwn.never rfl (XC (ai (ai (pv 0) rfl) rfl)) (k8 rfl (dW (ck (i:=2) nd rfl (Or.inl rfl)) (dW (ck (i:=3) nd rfl (Or.inl rfl)) k7)))
   (ah (bo (gp (de (cw ae7 abT rfl T.Nf T.tj.kp T.ad3 .nil aB (aa (pv 3) (aa (k9 hu (ai (ai (pv 0) rfl) rfl) (pv 2) ⟨rfl,rfl,rfl,rfl⟩) ae))))) (ah (aT (bA (aa ay (aa ay ae))))) bH))))
   (ah (aT (bA (aa ay (aa ay ae)))))),?_⟩
  obtain ⟨dh,hH⟩:=R.hs
  obtain ⟨dr,hR⟩:=R.res
  obtain ⟨di,hI⟩:=R.inv
  have es : Vbahap.step W.st (cG 17 l) = (W.st,[0,if (W.st.views.all (Vbahap.settledOne W.st)) = true then 1 else 0]):=rfl
  rw [es] at k
  refine ⟨W.aS,_,R.bD,trivial,fun od => ?_⟩
  have hH0 : upd H W.aS (.a7 od (.dT (bK W.vw))) W.aH = some (.ins A.aD dh (jJ W.aN W.aI W.aR)):=bq hH R.bD (by show (["net","inventory","resellers"] : List Str) ≠ (["d"] : List Str); decide +kernel)
  have hR0 : upd H W.aS (.a7 od (.dT (bK W.vw))) W.aR = some (.ins A.bw dr (ky W.aN W.aS)):=bq hR R.bD (by show (["net","sales"] : List Str) ≠ (["d"] : List Str); decide +kernel)
  have hI0 : upd H W.aS (.a7 od (.dT (bK W.vw))) W.aI = some (.ins A.aG di (gB W.aN W.aF W.aK)):=bq hI R.bD (by show (["net","flights","kept"] : List Str) ≠ (["d"] : List Str); decide +kernel)
  have hK0 : upd H W.aS (.a7 od (.dT (bK W.vw))) W.aK = some (.dT (bY W.tr)):=by rw [ag R.dZ]; exact R.bJ
  have hS0 : upd H W.aS (.a7 od (.dT (bK W.vw))) W.aS = some (.a7 od (.dT (bK W.vw))):=af
  have hV0 : ∀ x ∈ W.vw,cq (upd H W.aS (.a7 od (.dT (bK W.vw)))) x.1 A.aV (cD x.2):=fun x hx => (R.cv x hx).keep R.bD (by show (["r","no","f","seats","unwanted","seen","stood"] : List Str) ≠ (["d"] : List Str); decide +kernel)
  have hT0 : ∀ x ∈ W.tr,cq (upd H W.aS (.a7 od (.dT (bK W.vw)))) x.1 A.aP (cx x.2):=fun x hx => (R.b9 x hx).keep R.bD (by show (["r","no","f","seats","stands","version","known"] : List Str) ≠ (["d"] : List Str); decide +kernel)
  have back : ∀ H',ao (upd H W.aS (.a7 od (.dT (bK W.vw)))) H' → ao H (upd H' W.aS (.dT (bK W.vw))):=fun H' s c o e => by
   by_cases z : c = W.aS
   ·rw [z,af]
    rw [z,R.bD] at e
    exact e
   ·rw [ag z]
    refine s c o ?_
    rw [ag z]
    exact e
  generalize upd H W.aS (.a7 od (.dT (bK W.vw))) = H0 at hH0 hR0 hI0 hK0 hS0 hV0 hT0 back ⊢
  refine ⟨_,rfl,W.aH,A.aD,dh,_,_,rfl,hH0,T.br,T.gz,kH _ _ _,W.aR,A.bw,dr,_,_,rfl,hR0,T.cF,T.gv,kF _ _,W.aS,od,_,rfl,hS0,acY (fun i σ H' => ∃ (u v : Option V),σ = [some (.ref W.aH),some (.ref p),u,v] ∧ ao H0 H' ∧ ((W.vw.take i).map (·.2)).all (Vbahap.settledOne W.st) = true) ?_ ?_ ?_ ?_⟩
  ·exact ⟨none,none,rfl,ao.refl _,rfl⟩
  ·rintro i σ H' _ ⟨u,v,_,s,_⟩
   exact s _ _ hS0
  ·rintro i kk y T0 q σ H' hi hT1 hq1 ⟨u,v,rfl,s,al⟩
   obtain ⟨x,hx,ek,ey⟩ : ∃ x,W.vw[i]? = some x ∧ kk = bE x.2.r x.2.no ∧ y = V.ref x.1:=by
    have hi' : (W.vw.map fun p => (bE p.2.r p.2.no,V.ref p.1))[i]? = some (kk,y):=hi
    rw [List.getElem?_map] at hi'
    cases e : W.vw[i]? with
    | none => rw [e] at hi'; cases hi'
    | some x =>
      rw [e] at hi'
      have:=Option.some.inj hi'
      exact ⟨x,rfl,(congrArg Prod.fst this).symm,(congrArg Prod.snd this).symm⟩
   subst ek ey
   have hm : x ∈ W.vw:=List.mem_of_getElem? hx
   have s1 : ao H0 (upd H' T0 (.tup [.ref q,.ref x.1])):=s.trans (aU hT1)
   have hq2:=aU (o:=.tup [.ref q,.ref x.1]) hT1 _ _ hq1
   have hTT : upd H' T0 (.tup [.ref q,.ref x.1]) T0 = some (.tup [.ref q,.ref x.1]):=af
   generalize upd H' T0 (.tup [.ref q,.ref x.1]) = H2 at s1 hq2 hTT ⊢
   refine ⟨T0,_,rfl,a4.of hTT,rfl,_,_,rfl,_,_,rfl,rfl,?_⟩
   have gd : bL H2 W.aK (.ref q) (bX (bY W.tr) (bE x.2.r x.2.no)):=bL.t (k:=bE x.2.r x.2.no) (s1 _ _ hK0) hq2
   have nxt : ∀ H3,ao H2 H3 → Vbahap.settledOne W.st x.2 = true → ∃ (u v : Option V),[some (V.ref W.aH),some (V.ref p),some (V.ref q),some (V.ref x.1)] = [some (.ref W.aH),some (.ref p),u,v] ∧ ao H0 H3 ∧ ((W.vw.take (i + 1)).map (·.2)).all (Vbahap.settledOne W.st) = true:=fun H3 s3 c => by
    refine ⟨_,_,rfl,s1.trans s3,?_⟩
    rw [take_snoc hx,List.map_append,List.all_append,al]
    show (true && (Vbahap.settledOne W.st x.2 && true)) = true
    rw [c]
    rfl
   have bad : Vbahap.settledOne W.st x.2 = false → ∀ H3,ao H2 H3 → ∀ b,H3 b = none → upd H3 b (.lst [V.int 0,V.int 0]) W.aS = some (.a7 od (.dT (bK W.vw))) ∧ Q (.ref b) (upd (upd H3 b (.lst [V.int 0,V.int 0])) W.aS (.dT (bK W.vw))):=fun c H3 s3 b hb => by
    have s4 : ao H0 (upd H3 b (.lst [V.int 0,V.int 0])):=(s1.trans s3).trans (aU hb)
    refine ⟨s4 _ _ hS0,?_⟩
    have sH:=back _ s4
    have na : W.st.views.all (Vbahap.settledOne W.st) = false:=by
     cases e : W.st.views.all (Vbahap.settledOne W.st) with
     | false => rfl
     | true =>
       have:=List.all_eq_true.mp e x.2 (mH hm)
       rw [c] at this
       cases this
    rw [na] at k
    have nb : b ≠ W.aS:=(bj ((s1.trans s3) _ _ hS0) hb).symm
    refine k _ W b (R.same sH) (aO.same sH) rfl (fun d o e n z => ?_) ?_
    ·rw [z] at e n
     have:=sH _ _ e
     have nH0 : H0 b = none:=(s1.trans s3).free hb
     have e2 : H b = none:=by
      cases q2 : H b with
      | none => rfl
      | some o2 =>
        have:=back H0 (ao.refl _) _ _ q2
        rw [ag nb,nH0] at this
        cases this
     rw [e2] at e
     cases e
    ·rw [ag nb,af]
     rfl
   have sq : Vbahap.settledOne W.st x.2 = match Vbahap.truthOf W.st x.2.r x.2.no with | none => false | some t => eM x.2 t:=WK _ _
   obtain ⟨dx,hxx⟩:=hV0 x hm
   refine ⟨_,rfl,_,rfl,W.aH,A.aD,dh,_,_,rfl,s1 _ _ hH0,T.br,T.dq,dO _ _ _,W.aI,A.aG,di,_,_,rfl,s1 _ _ hI0,T.bb,T.fA,jF _ _ _,W.aK,rfl,.inr ⟨_,.inl (s1 _ _ hK0)⟩,_,rfl,_,gd,x.1,x.2,_,rfl,⟨dx,s1 _ _ hxx⟩,?_⟩
   rcases mw W.tr x.2.r x.2.no with ⟨t,ht,e1,e2,hv,hs⟩ | ⟨hv,hs⟩
   ·have fo : Vbahap.truthOf W.st x.2.r x.2.no = some t.2:=hs
    rw [fo] at sq
    have sq' : Vbahap.settledOne W.st x.2 = eM x.2 t.2:=sq
    obtain ⟨dt,htt⟩:=hT0 t ht
    refine .inr ⟨t.1,t.2,by rw [hv]; rfl,⟨dt,s1 _ _ htt⟩,(g.to t.2 (gC ht)).st.2,fun H3 s3 => ⟨_,rfl,?_⟩⟩
    rw [← sq']
    cases c : Vbahap.settledOne W.st x.2 with
    | true =>
      refine a8 ?_
      exact nxt H3 s3 c
    | false =>
      refine bc ?_
      exact ⟨(by show 2 ≤ sizeLine; decide),bad c H3 s3⟩
   ·have fo : Vbahap.truthOf W.st x.2.r x.2.no = none:=hs
    rw [fo] at sq
    have sq' : Vbahap.settledOne W.st x.2 = false:=sq
    refine .inl ⟨by rw [hv]; rfl,fun H3 s3 => ⟨_,rfl,?_⟩⟩
    refine bc ?_
    exact ⟨(by show 2 ≤ sizeLine; decide),bad sq' H3 s3⟩
  ·rintro σ H' ⟨u,v,rfl,s,al⟩
   have e2 : (bK W.vw).length = W.vw.length:=by unfold bK; rw [List.length_map]
   rw [e2,List.take_length] at al
   refine ⟨s _ _ hS0,?_⟩
   refine ⟨(by show 2 ≤ sizeLine; decide),fun b hb => ?_⟩
   have sH:=back _ s
   have al' : W.st.views.all (Vbahap.settledOne W.st) = true:=al
   rw [al'] at k
   exact ((aA.refl R).same sH).fin hb k rfl rfl
theorem acn {s : State} {l : List Msg} (g : Good (bx l s)) : Good s :=
 ⟨g.fk,g.fl,g.tk,g.to,g.tv,g.vk,g.vo,g.vl,g.vn,g.vs,fun m hm => g.ms m (List.mem_append_right _ hm)⟩
def UO (A : Ad) : Sp:=cU A 9
theorem KJ (T : Txt w.params K mg A) : aE P w K mg base aQ 8 A.fV A.rl ["houses","numbers"] (UO A):=by
 have nd:=HI.nd
 have kl:=nA (P:=P) (w:=w) (base:=base) T
 have aff:=Yd (P:=P) (w:=w) (base:=base) T
 have E3:=KN (P:=P) (w:=w) (base:=base) T
 have E1:=Ko (P:=P) (w:=w) (base:=base) T
 refine T.tO.ok HI (fun vs H Q E h => ?_) (fun cdv AA outer s H vs Q E hr h => ?_)
 ·obtain ⟨W,l,p,rfl,R,g,hp,hf,hin,hl,hl2,k⟩:=h
  rfl
 ·obtain ⟨W,l,p,rfl,R,g,hp,hf,hin,hl,hl2,k⟩:=h
  have jM : aq 1 _:=hr.mono (by decide)
  have ab1 : aq 1 _:=hr.mono (by decide)
  have AS : aq 7 _:=hr.mono (by decide)
  have AQ : aq 4 _:=hr.mono (by decide)
  have hu:=aZ hr
  refine ⟨_,(au (bB (cw E1 AQ rfl T.Bb T.oH.kp T.QZ .nil aB (aa (pv 0) ae)))
   (au (bI (i:=2) nd rfl (Or.inl rfl) ay)
   (au (IQ PassesOwn.never (de (bh (ai (pv 0) rfl) T.bW T.mn kl jM T.oq .nil aB (aa ay ae))) (ah (dz PassesOwn.never rfl (fu (uU (ai (pv 0) rfl) T.bW T.Le aff ab1 T.aet .nil aB)) (ck (i:=3) nd rfl (Or.inl rfl))
    (au (bB (cw E3 AS rfl T.Bd T.oJ.kp T.Q4 .nil aB (aa (pv 0) (aa (pv 3) ae))))
   (ah (bI (i:=2) nd rfl (Or.inl rfl) (cW jD (pv 2) ay)))))))
   (ah (aT (bA (aa ay (aa (pv 2) ae)))))))),?_⟩
  have es : Vbahap.step W.st (cG 9 l) = ((eE (Vbahap.send W.st (Vbahap.again W.st)) 0).1,[0,((eE (Vbahap.send W.st (Vbahap.again W.st)) 0).2 : Int)]):=calm_eq g
  rw [es] at k
  refine ⟨_,rfl,W,rfl,R,g,(by omega),fun H1 W1 po1 es1 => ?_⟩
  rw [← es1] at k
  have g1 : Good W1.st:=by rw [es1]; exact fC g (mJ g)
  have hp1 : bG W1.st.net ≤ 83 * 100100:=by
   have h1:=uC W1.st.net
   have h2 : W1.st.net.length ≤ 100080:=by
    rw [es1]
    show (W.st.net ++ Vbahap.again W.st).length ≤ _
    rw [List.length_append,kI]
    have:=M3 g
    omega
   omega
  have ad1:=po1.fr.adr
  have mono : ∀ (σ : L2.St) (H : Hp) (Q Q' : Bool → Hp → Prop),(∀ b H1,Q b H1 → Q' b H1) → tB (oX A.a5 "has" (uc A) [] E0 (oY K (oV 0) "net") (t9 (tC (.int 0)) mW)) σ H Q → tB (oX A.a5 "has" (uc A) [] E0 (oY K (oV 0) "net") (t9 (tC (.int 0)) mW)) σ H Q':=by
   intro σ H Q Q' h
   rintro ⟨v0,e0,a1,C1,d1,f1,v1,e1,h1,c1,n1,k1,a2,d2,f2,e2,h2,k2,W0,i0,e3,R3,c3,e4,q⟩
   exact ⟨v0,e0,a1,C1,d1,f1,v1,e1,h1,c1,n1,k1,a2,d2,f2,e2,h2,k2,W0,i0,e3,R3,c3,e4,h _ _ q⟩
  refine FU (fun σ H' => ∃ (d : Nat) (v : Option V) (W' : Wd),σ = [some (.ref W.aH),some (.ref p),some (.int d),v] ∧ Rep A.toCs H' W' ∧ aO H1 W1 H' W' ∧ Good W'.st ∧ eE W'.st d = eE W1.st 0 ∧ bG W'.st.net ≤ bG W1.st.net ∧ d + bG W'.st.net ≤ bG W1.st.net)
   (fun (σ : L2.St) _ => match (σ[2]? : Option (Option V)) with | some (some (V.int d)) => (bG W1.st.net + 1 - d.toNat) | _ => 0) ⟨0,none,W1,rfl,po1.rep,aO.refl _ _,g1,rfl,Nat.le_refl _,by omega⟩ ?_ mono
  rintro σ H' ⟨d,v,W',rfl,R',F',g',ec,hpt,hdp⟩
  obtain ⟨dh,hH⟩:=R'.hs
  obtain ⟨dn,hN⟩:=R'.net
  have aH' : W'.aH = W.aH:=F'.adr.aH.trans ad1.aH
  rw [aH'] at hH
  refine ⟨_,rfl,W.aH,A.aD,dh,_,_,rfl,hH,T.br,T.cA,cO _ _ _,W'.aN,dn,_,rfl,hN,dY _ _ (by decide +kernel),W',0,rfl,R',_,rfl,?_⟩
  by_cases he : 0 < W'.ms.length
  ·rw [decide_eq_true he]
   refine bc ?_
   refine ⟨_,rfl,W.aH,A.aD,dh,_,_,rfl,hH,T.br,T.cA,cO _ _ _,W'.aN,dn,_,rfl,hN,dY _ _ (by decide +kernel),W',rfl,R',fun H2 lq R2 F2 hlq hM2 => ?_⟩
   have oM : ¬ (W'.fresh lq).foot W'.aM:=fun f => by
    have kM : ∀ (b : Addr) (o : HO),H2 b = some o → kd o ≠ (["l"] : List Str) → W'.aM ≠ b:=fun b o e n z => by
     rw [← z,hM2] at e
     cases e
     exact n rfl
    rcases f with z | z | z | z | z | z | z | z
    ·obtain ⟨d,e⟩:=R2.net
     exact kM _ _ e (by show (["messages","sent"] : List Str) ≠ (["l"] : List Str); decide +kernel) z
    ·have z' : W'.aM = lq:=z
     rw [← z',R'.msg] at hlq
     cases hlq
    ·exact kM _ _ R2.bF (by show (["k"] : List Str) ≠ (["l"] : List Str); decide +kernel) z
    ·exact kM _ _ R2.bJ (by show (["d"] : List Str) ≠ (["l"] : List Str); decide +kernel) z
    ·exact kM _ _ R2.bD (by show (["d"] : List Str) ≠ (["l"] : List Str); decide +kernel) z
    ·obtain ⟨q,hq,e⟩:=List.mem_map.mp z
     obtain ⟨d,e2⟩:=R2.cE q hq
     exact kM _ _ e2 (by show (["cap","shut"] : List Str) ≠ (["l"] : List Str); decide +kernel) e.symm
    ·obtain ⟨q,hq,e⟩:=List.mem_map.mp z
     obtain ⟨d,e2⟩:=R2.b9 q hq
     exact kM _ _ e2 (by show (["r","no","f","seats","stands","version","known"] : List Str) ≠ (["l"] : List Str); decide +kernel) e.symm
    ·obtain ⟨q,hq,e⟩:=List.mem_map.mp z
     obtain ⟨d,e2⟩:=R2.cv q hq
     exact kM _ _ e2 (by show (["r","no","f","seats","unwanted","seen","stood"] : List Str) ≠ (["l"] : List Str); decide +kernel) e.symm
   have e0 : bx (W'.ms.map (·.2)) (W'.fresh lq).st = W'.st:=by
    unfold bx Wd.fresh Wd.st
    simp
   have hms2 : ∀ q ∈ W'.ms,H2 q.1 = some (.tup (dM q.2)):=fun q hq => F2.keep _ _ (R'.dC q hq) (R'.Ge (R'.dC q hq))
   refine ⟨W'.aM,rfl,⟨_,az.of hM2⟩,jQ (K:=K) (a:=W'.aM) (xs:=bO W'.ms) (fun i σ H3 => ∃ (v : Option V) (W3 : Wd),σ = [some (.ref W.aH),some (.ref p),some (.int ((d + i : Nat) : Int)),v] ∧ Rep A.toCs H3 W3 ∧ aO H2 (W'.fresh lq) H3 W3 ∧
    Good (bx ((W'.ms.drop i).map (·.2)) W3.st) ∧ eE (bx ((W'.ms.drop i).map (·.2)) W3.st) (d + i) = eE W1.st 0 ∧ (d + i) + bG (bx ((W'.ms.drop i).map (·.2)) W3.st).net ≤ bG W1.st.net) ?_ ?_ ?_ ?_⟩
   ·refine ⟨v,W'.fresh lq,rfl,R2,aO.refl _ _,?_,?_,?_⟩
    ·rw [List.drop_zero,e0]; exact g'
    ·rw [List.drop_zero,e0]; exact ec
    ·rw [List.drop_zero,e0]; exact hdp
   ·rintro i σ H3 _ ⟨v,W3,_,R3,F3,_⟩
    exact az.of (F3.keep _ _ hM2 oM)
   ·rintro i y σ H3 hi ⟨v,W3,rfl,R3,F3,g3,ec3,hd3⟩
    obtain ⟨q,hq,rfl⟩:=dk hi
    have hlt:=(List.getElem?_eq_some_iff.mp hq).1
    have ed : W'.ms.drop i = q :: W'.ms.drop (i + 1):=by
     rw [List.drop_eq_getElem_cons hlt,(List.getElem?_eq_some_iff.mp hq).2]
    rw [ed,List.map_cons] at g3 ec3 hd3
    have hqm:=List.mem_of_getElem? hq
    have hq3 : H3 q.1 = some (.tup (dM q.2)):=F3.keep _ _ (hms2 q hqm) (R2.Ge (hms2 q hqm))
    have ok : cX W3.st q.2:=cX.mono (fun r no h => h) (fun r no v h => h) (g3.ms q.2 List.mem_cons_self)
    have gs:=acn g3
    obtain ⟨c1,c2,c3⟩:=ady (k:=d + i) g3
    have hsz : W3.ms.length + 200 < sizeLine:=by
     have h1:=my (bx (q.2 :: (W'.ms.drop (i + 1)).map (·.2)) W3.st).net
     have h2 : W3.ms.length ≤ (bx (q.2 :: (W'.ms.drop (i + 1)).map (·.2)) W3.st).net.length:=by
      show _ ≤ ((q.2 :: (W'.ms.drop (i + 1)).map (·.2)) ++ W3.st.net).length
      rw [List.length_append,kI]
      omega
     rw [sizeLine_eq]
     omega
    refine ⟨_,rfl,_,rfl,W3,q.1,q.2,?_,hq3,R3,gs,ok,hsz,fun H4 W4 po4 es4 => ?_⟩
    ·rw [F3.adr.aH]
     show [V.ref W.aH,V.ref q.1] = [V.ref W'.aH,V.ref q.1]
     rw [aH']
    ·refine ⟨_,rfl,_,_,rfl,rfl,?_⟩
     refine ⟨some (.ref q.1),W4,?_,po4.rep,F3.trans po4.fr,?_,?_,?_⟩
     ·rfl
     ·rw [es4]; exact c2
     ·rw [es4,show d + (i + 1) = d + i + 1 from rfl,← c1]; exact ec3
     ·rw [es4]; omega
   ·rintro σ H3 ⟨v,W3,rfl,R3,F3,g3,ec3,hd3⟩
    have e2 : (bO W'.ms).length = W'.ms.length:=by unfold bO; rw [List.length_map]
    rw [e2,List.drop_length] at g3 ec3 hd3
    have e3 : bx (([] : List (Addr × Msg)).map (·.2)) W3.st = W3.st:=by
     unfold bx
     simp
    rw [e3] at g3 ec3 hd3
    refine ⟨⟨d + W'.ms.length,v,W3,by rw [e2],R3,(F'.trans F2).trans F3,g3,ec3,by omega,hd3⟩,?_⟩
    show bG W1.st.net + 1 - (((d + (bO W'.ms).length : Nat) : Int)).toNat < bG W1.st.net + 1 - ((d : Nat) : Int).toNat
    rw [e2]
    omega
  ·rw [decide_eq_false he]
   refine a8 ?_
   have en : W'.st.net = []:=by
    unfold Wd.st
    have : W'.ms = []:=List.length_eq_zero_iff.mp (by omega)
    rw [this]
    rfl
   have ce : eE W1.st 0 = (W'.st,d):=by rw [← ec]; exact adz en
   rw [ce] at k
   refine ⟨_,rfl,(by show 2 ≤ sizeLine; decide),fun b hb => ?_⟩
   exact (po1.fr.trans F').fin R' hb k rfl rfl
end
end Sh
end
section
namespace L2
open PySem PySem.Spec PyProof.Rows
theorem abk {x : Str} {g : TG} {tt : TT} {te : TE} {vs : List Nat} {σ : L2.St} {H1 : Hp} {D : Addr} {Qd : Hp → Prop} (Pv : Nat → Hp → Prop) (h0 : Pv 0 (upd H1 D (.lst [])))
 (hs : ∀ i c H,x.cps[i]? = some c → Pv i H → g (.str ⟨#[c]⟩) (wipe σ vs) H fun σ2 H2 => wipe σ2 vs = wipe σ vs ∧ tt σ2 H2 fun b H3 =>
  if b = true then te σ2 H3 fun y H4 => ∃ acc,H4 D = some (.lst acc) ∧ acc.length < sizeLine ∧ Pv (i + 1) (upd H4 D (.lst (acc ++ [y]))) else Pv (i + 1) H3) (hd : ∀ H,Pv x.cps.size H → Qd H) :
 ∃ W : Nat → Nat → Hp → Prop,(∃ m,W 0 m (upd H1 D (.lst []))) ∧ ∀ i m H,W i m H →
  ((oB x).stop i H ∧ Qd H) ∨ ((oB x).go i H ∧ ∃ Nx : Hp → Prop,(∀ H',Nx H' → ∃ m',m' < m ∧ W (i + 1) m' H') ∧ ∀ v H',(oB x).e9 i H v H' → g v (wipe σ vs) H' fun σ2 H2 => wipe σ2 vs = wipe σ vs ∧ tt σ2 H2 fun b H3 =>
    if b = true then te σ2 H3 fun y H4 => ∃ acc,H4 D = some (.lst acc) ∧ acc.length < sizeLine ∧ Nx (upd H4 D (.lst (acc ++ [y]))) else Nx H3):=by
 refine ⟨fun i m H => m = x.cps.size - i ∧ i ≤ x.cps.size ∧ Pv i H,⟨x.cps.size,by simp,Nat.zero_le _,h0⟩,?_⟩
 rintro i m H ⟨rfl,hi,p⟩
 by_cases hlt : i < x.cps.size
 ·refine .inr ⟨hlt,Pv (i + 1),fun H' p' => ⟨x.cps.size - (i + 1),by omega,rfl,hlt,p'⟩,fun v H' y => ?_⟩
  obtain ⟨e,c,hc,ev⟩:=y
  subst e ev
  exact hs i c _ hc p
 ·have e : i = x.cps.size:=by omega
  subst e
  exact .inl ⟨Nat.le_refl _,hd H p⟩
theorem Bp {K : PySem.W.Frag} {H : Hp} : ∀ l : List Int,lQ K H (l.map V.int) (l.map PyData.int)
 | [] => .nil
 | n :: r => .cons (.int n) (Bp r)
theorem lay_ints : ∀ l : List Int,PyData.canLayAll0 (l.map PyData.int) = true
 | [] => by simp [PyData.canLayAll0]
 | n :: r => by
   rw [List.map_cons]
   simp only [PyData.canLayAll0,PyData.canLay0,lay_ints r,Bool.and_self]
theorem NI : ∀ l : List Int,PyData.depthAll (l.map PyData.int) = 0
 | [] => by simp [PyData.depthAll]
 | n :: r => by
   rw [List.map_cons]
   simp only [PyData.depthAll,PyData.depth,NI r,Nat.max_self]
theorem shaped_ints (l : List Int) : SeqAt.shaped (.list (l.map PyData.int)) = true:=by
 unfold SeqAt.shaped
 simp only [PyData.canLay0,lay_ints,PyData.depth,NI]
 decide
theorem Ny : ∀ l m : List Int,PyData.eqvAll (l.map PyData.int) (m.map PyData.int) = decide (l = m)
 | [],[] => by simp [PyData.eqvAll]
 | [],_ :: _ => by simp [PyData.eqvAll]
 | _ :: _,[] => by simp [PyData.eqvAll]
 | a :: l,b :: m => by
   rw [List.map_cons,List.map_cons]
   simp only [PyData.eqvAll,PyData.eqv,Ny l m]
   by_cases h : a = b
   ·subst h
    by_cases h2 : l = m
    ·subst h2; simp
    ·simp [h2]
   ·simp [h]
theorem Bi {K : PySem.W.Frag} {H : Hp} {a b : Addr} {xs ys : List Int} {Q : VK} (ha : az K H a (xs.map V.int)) (hb : az K H b (ys.map V.int)) (q : Q (.bl (decide (xs = ys))) H) : IM K (.ref a) (.ref b) H Q:=by
 refine ⟨.list (xs.map .int),.list (ys.map .int),.lst ha (Bp xs),.lst hb (Bp ys),shaped_ints xs,shaped_ints ys,?_⟩
 have e : PyData.eqv (.list (xs.map PyData.int)) (.list (ys.map PyData.int)) = decide (xs = ys):=by
  simp only [PyData.eqv,Ny]
 rw [e]
 exact q
end L2
namespace Sh
open PySem PySem.Spec PyProof.Rows L2 TL
open Vbahap (State Truth View Flight Msg Bytes decimal)
def cQ (x : Str) : List Int:=zs (tl x)
theorem Lp {n : Nat} (h : n < 2 ^ 100) : n.log2 < 1920:=by
 by_cases z : n = 0
 ·subst z
  rw [Nat.log2_zero]
  decide
 ·exact Nat.lt_trans ((Nat.log2_lt z).mpr h) (by decide)
theorem adw (n : Nat) : cQ (Str.ofString (toString ((n : Nat) : Int))) = zs (decimal n):=by
 unfold cQ
 rw [Gg,nZ]
 rfl
theorem str_len (x : Str) : x.length = (tl x).length:=by
 show x.cps.size = x.cps.toList.length
 rw [Array.length_toList]
section
variable {P : Program} {w : World} {K : PySem.W.Frag} {mg : Str → Option Value} {base : Heap} {A : Ad}
def UQ (_ : Ad) : Sp:=fun vs H Q _ => ∃ (x : Str),vs = [.str x] ∧ x.cps.size ≤ 100000 ∧ ∀ b,H b = none → Q (.ref b) (upd H b (.lst ((cQ x).map V.int)))
theorem pX (T : Txt w.params K mg A) : aE P w K mg base aQ 1 A.j6 A.rn ["signs"] (UQ A):=by
 have nd:=HK.nd
 refine T.lO.ok HK (fun vs H Q E h => ?_) (fun cdv AA outer s H vs Q E hr h => ?_)
 ·obtain ⟨x,rfl,hx,k⟩:=h
  rfl
 ·obtain ⟨x,rfl,hx,k⟩:=h
  have hu:=aZ hr
  refine ⟨_,(ah (aT (m9 (own:=[("sign",1)]) rfl nd (XA (pv 0)) (oh (N:=["signs","sign"]) (sc:=ab gi) (by decide +kernel)) (fun _ _ _ _ _ => ck (i:=1) nd rfl (Or.inl rfl)) (fun _ _ _ _ _ => uA) (fun _ _ _ _ _ => (dB adF (by rfl) T.K4 adL (aa (pv 1) ae)))))),?_⟩
  refine ⟨_,rfl,x,rfl,fun D hD => ?_⟩
  refine abk (fun i H' => H' = upd H D (.lst (((zs ((tl x).take i))).map V.int))) rfl (fun i c H' hc e => ?_) (fun H' e => ?_)
  ·subst e
   have hc' : (tl x)[i]? = some c:=by
    show x.cps.toList[i]? = some c
    rw [Array.getElem?_toList]
    exact hc
   have hlt : i < (tl x).length:=(List.getElem?_eq_some_iff.mp hc').1
   refine ⟨rfl,?_⟩
   refine ⟨_,rfl,⟨#[c]⟩,rfl,rfl,_,af,?_,?_⟩
   ·unfold zs
    rw [List.length_map,List.length_map,List.length_take,sizeLine_eq]
    rw [← str_len] at hlt
    have : x.length = x.cps.size:=rfl
    omega
   ·rw [cZ,take_snoc hc']
    unfold zs
    rw [List.map_append,List.map_append]
    rfl
  ·have e' : H' = upd H D (.lst ((cQ x).map V.int)):=by
    rw [e]
    unfold cQ
    rw [show x.cps.size = (tl x).length from (str_len x),List.take_length]
   subst e'
   exact k D hD
def d5 : Msg → Nat
 | .ask _ _ _ _ => 0
 | .can _ _ => 1
 | .st _ _ _ _ => 2
 | .ack _ _ _ => 3
def eU : List (List Str):=[["ASK","r","no","flight","seats"],["CAN","r","no"],["ST","r","no","version","letter"],["ACK","r","no","version"]]
def jH : List Str:=["H","W","R","C","X"]
theorem GP {K : PySem.W.Frag} {v : V} (l : List Str) (h : cB K 1 v (.t (l.map TD.s))) : ∃ a,v = .ref a ∧ ∀ H,a4 K H a (l.map V.str):=by
 unfold cB at h
 obtain ⟨a,xs,e,sq,hl,tt⟩:=h
 refine ⟨a,e,?_⟩
 have ex : xs = l.map V.str:=by
  refine List.ext_getElem? fun i => ?_
  rw [List.getElem?_map]
  cases q : l[i]? with
  | none =>
    have h1 : l.length ≤ i:=List.getElem?_eq_none_iff.mp q
    rw [List.length_map] at hl
    exact List.getElem?_eq_none_iff.mpr (by omega)
  | some y =>
    have h1 : i < l.length:=(List.getElem?_eq_some_iff.mp q).1
    rw [List.length_map] at hl
    have h2 : xs[i]? = some (xs[i]'(by omega)):=List.getElem?_eq_getElem _
    have:=tt i _ (.s y) h2 (by rw [List.getElem?_map,q]; rfl)
    unfold cB at this
    rw [h2,this]
    rfl
 rw [← ex]
 exact sq
theorem Ti {K : PySem.W.Frag} {v : V} (ls : List (List Str)) (h : cB K 2 v (.t (ls.map fun l => .t (l.map TD.s)))) :
 ∃ a xs,v = .ref a ∧ (∀ H,a4 K H a xs) ∧ xs.length = ls.length ∧ ∀ (i : Nat) (l : List Str),ls[i]? = some l → ∃ b,xs[i]? = some (.ref b) ∧ ∀ H,a4 K H b (l.map V.str):=by
 unfold cB at h
 obtain ⟨a,xs,e,sq,hl,tt⟩:=h
 rw [List.length_map] at hl
 refine ⟨a,xs,e,sq,hl,fun i l q => ?_⟩
 have h1 : i < ls.length:=(List.getElem?_eq_some_iff.mp q).1
 have h2 : xs[i]? = some (xs[i]'(by omega)):=List.getElem?_eq_getElem _
 have:=tt i _ (.t (l.map TD.s)) h2 (by rw [List.getElem?_map,q]; rfl)
 obtain ⟨b,eb,sb⟩:=GP l this
 exact ⟨b,by rw [h2,eb],sb⟩
theorem Txt.cP {Pa : Params} (T : Txt Pa K mg A) : ∃ xs,(∀ H,a4 K H A.dv xs) ∧ xs.length = 4 ∧ ∀ (i : Nat) (l : List Str),eU[i]? = some l → ∃ b,xs[i]? = some (.ref b) ∧ ∀ H,a4 K H b (l.map V.str):=by
 obtain ⟨a,xs,e,h⟩:=Ti eU T.mO
 cases e
 exact ⟨xs,h⟩
theorem Txt.letters {Pa : Params} (T : Txt Pa K mg A) : ∀ H,a4 K H A.du (jH.map V.str):=by
 obtain ⟨a,e,h⟩:=GP jH T.mN
 cases e
 exact h
theorem adO (A : Ad) : (A.bounds.lookup ("r" : Str)).isSome = true ∧ (A.bounds.lookup ("no" : Str)).isSome = true ∧ (A.bounds.lookup ("flight" : Str)).isSome = true ∧ (A.bounds.lookup ("seats" : Str)).isSome = true ∧ (A.bounds.lookup ("version" : Str)).isSome = true ∧ (A.bounds.lookup ("letter" : Str)).isSome = false:=by
 unfold Ad.bounds
 refine ⟨?_,?_,?_,?_,?_,?_⟩
 ·rw [bN] <;> rfl
 ·rw [aY (by decide +kernel) bN] <;> rfl
 ·rw [aY (by decide +kernel) (aY (by decide +kernel) bN)] <;> rfl
 ·rw [aY (by decide +kernel) (aY (by decide +kernel) (aY (by decide +kernel) bN))] <;> rfl
 ·rw [aY (by decide +kernel) (aY (by decide +kernel) (aY (by decide +kernel) (aY (by decide +kernel) bN)))] <;> rfl
 ·rw [mx (by show ("letter" : Str) ∉ (["r","no","flight","seats","version"] : List Str); decide +kernel)]
  rfl
def cu (name : Str) (n : Nat) : Str:=if name = "letter" then jH.getD (n - 1) "?" else Str.ofString (toString ((n : Nat) : Int))
def sQ : Msg → Prop
 | .ask r no f n => r < 10 ^ 9 ∧ no < 10 ^ 9 ∧ f < 10 ^ 9 ∧ n < 10 ^ 9
 | .can r no => r < 10 ^ 9 ∧ no < 10 ^ 9
 | .st r no v s => r < 10 ^ 9 ∧ no < 10 ^ 9 ∧ v < 10 ^ 9 ∧ 1 ≤ s ∧ s ≤ 5
 | .ack r no v => r < 10 ^ 9 ∧ no < 10 ^ 9 ∧ v < 10 ^ 9
def namesOf (m : Msg) : List Str:=(eU.getD (d5 m) []).tail
def headOf (m : Msg) : Str:=(eU.getD (d5 m) []).headD "?"
def numsOf (m : Msg) : List Nat:=(Vbahap.numbersOf m).tail
def SE (name : Str) (n : Nat) : Prop:=(name = "letter" ∧ 1 ≤ n ∧ n ≤ 5) ∨ (name ∈ (["r","no","flight","seats","version"] : List Str) ∧ n < 10 ^ 9)
theorem aa2 (m : Msg) (h : sQ m) : eU[d5 m]? = some (headOf m :: namesOf m) ∧ dM m = V.int (d5 m : Nat) :: (numsOf m).map (fun n : Nat => V.int (n : Int)) ∧ (namesOf m).length = (numsOf m).length ∧ (numsOf m).length ≤ 4 ∧ d5 m < 4 ∧ ∀ p ∈ (namesOf m).zip (numsOf m),SE p.1 p.2:=by
 cases m with
 | ask r no f n =>
   obtain ⟨h1,h2,h3,h4⟩:=h
   refine ⟨rfl,rfl,rfl,Nat.le_of_ble_eq_true rfl,Nat.le_of_ble_eq_true rfl,fun p hp => ?_⟩
   have hp' : p = (("r" : Str),r) ∨ p = (("no" : Str),no) ∨ p = (("flight" : Str),f) ∨ p = (("seats" : Str),n):=by simpa [namesOf,numsOf,d5,eU,Vbahap.numbersOf] using hp
   rcases hp' with rfl | rfl | rfl | rfl
   ·exact .inr ⟨by dsimp only; decide +kernel,h1⟩
   ·exact .inr ⟨by dsimp only; decide +kernel,h2⟩
   ·exact .inr ⟨by dsimp only; decide +kernel,h3⟩
   ·exact .inr ⟨by dsimp only; decide +kernel,h4⟩
 | can r no =>
   obtain ⟨h1,h2⟩:=h
   refine ⟨rfl,rfl,rfl,Nat.le_of_ble_eq_true rfl,Nat.le_of_ble_eq_true rfl,fun p hp => ?_⟩
   have hp' : p = (("r" : Str),r) ∨ p = (("no" : Str),no):=by simpa [namesOf,numsOf,d5,eU,Vbahap.numbersOf] using hp
   rcases hp' with rfl | rfl
   ·exact .inr ⟨by dsimp only; decide +kernel,h1⟩
   ·exact .inr ⟨by dsimp only; decide +kernel,h2⟩
 | st r no v s =>
   obtain ⟨h1,h2,h3,h4⟩:=h
   refine ⟨rfl,rfl,rfl,Nat.le_of_ble_eq_true rfl,Nat.le_of_ble_eq_true rfl,fun p hp => ?_⟩
   have hp' : p = (("r" : Str),r) ∨ p = (("no" : Str),no) ∨ p = (("version" : Str),v) ∨ p = (("letter" : Str),s):=by simpa [namesOf,numsOf,d5,eU,Vbahap.numbersOf] using hp
   rcases hp' with rfl | rfl | rfl | rfl
   ·exact .inr ⟨by dsimp only; decide +kernel,h1⟩
   ·exact .inr ⟨by dsimp only; decide +kernel,h2⟩
   ·exact .inr ⟨by dsimp only; decide +kernel,h3⟩
   ·exact .inl ⟨rfl,h4⟩
 | ack r no v =>
   obtain ⟨h1,h2,h3⟩:=h
   refine ⟨rfl,rfl,rfl,Nat.le_of_ble_eq_true rfl,Nat.le_of_ble_eq_true rfl,fun p hp => ?_⟩
   have hp' : p = (("r" : Str),r) ∨ p = (("no" : Str),no) ∨ p = (("version" : Str),v):=by simpa [namesOf,numsOf,d5,eU,Vbahap.numbersOf] using hp
   rcases hp' with rfl | rfl | rfl
   ·exact .inr ⟨by dsimp only; decide +kernel,h1⟩
   ·exact .inr ⟨by dsimp only; decide +kernel,h2⟩
   ·exact .inr ⟨by dsimp only; decide +kernel,h3⟩
def dU (m : Msg) : List Str:=headOf m :: ((namesOf m).zip (numsOf m)).map fun p => cu p.1 p.2
theorem eh (name : Str) (n : Nat) (h : name ≠ "letter") : tl (cu name n) = decimal n:=by
 unfold cu
 rw [if_neg h,Gg,nZ]
 rfl
theorem Tg (s : Nat) (h : 1 ≤ s ∧ s ≤ 5) : tl (cu "letter" s) = [Vbahap.letterOf s]:=by
 unfold cu
 rw [if_pos rfl]
 have : s = 1 ∨ s = 2 ∨ s = 3 ∨ s = 4 ∨ s = 5:=by omega
 rcases this with rfl | rfl | rfl | rfl | rfl <;> decide +kernel
theorem GO (m : Msg) (h : sQ m) : eQ [32] ((dU m).map tl) = Vbahap.textOf m:=by
 cases m with
 | ask r no f n =>
   show eQ [32] [tl "ASK",tl (cu "r" r),tl (cu "no" no),tl (cu "flight" f),tl (cu "seats" n)] = _
   rw [eh _ _ (by decide +kernel),eh _ _ (by decide +kernel),eh _ _ (by decide +kernel),eh _ _ (by decide +kernel),show tl ("ASK" : Str) = Vbahap.ASK by decide +kernel]
   rfl
 | can r no =>
   show eQ [32] [tl "CAN",tl (cu "r" r),tl (cu "no" no)] = _
   rw [eh _ _ (by decide +kernel),eh _ _ (by decide +kernel),show tl ("CAN" : Str) = Vbahap.CAN by decide +kernel]
   rfl
 | st r no v s =>
   show eQ [32] [tl "ST",tl (cu "r" r),tl (cu "no" no),tl (cu "version" v),tl (cu "letter" s)] = _
   rw [eh _ _ (by decide +kernel),eh _ _ (by decide +kernel),eh _ _ (by decide +kernel),Tg _ h.2.2.2,show tl ("ST" : Str) = Vbahap.ST_ by decide +kernel]
   rfl
 | ack r no v =>
   show eQ [32] [tl "ACK",tl (cu "r" r),tl (cu "no" no),tl (cu "version" v)] = _
   rw [eh _ _ (by decide +kernel),eh _ _ (by decide +kernel),eh _ _ (by decide +kernel),show tl ("ACK" : Str) = Vbahap.ACK by decide +kernel]
   rfl
theorem Xy {name : Str} {n : Nat} (h : SE name n) : (cu name n).length ≤ 9:=by
 rcases h with ⟨rfl,h1,h2⟩ | ⟨h1,h2⟩
 ·have : n = 1 ∨ n = 2 ∨ n = 3 ∨ n = 4 ∨ n = 5:=by omega
  rcases this with rfl | rfl | rfl | rfl | rfl <;> decide +kernel
 ·have ne : name ≠ "letter":=fun z => by
   rw [z] at h1
   exact absurd h1 (by decide +kernel)
  rw [str_len,eh name n ne]
  exact (qE n).len 9 (by decide) h2
theorem Uc {l : List Nat} {b : Nat} (h : ∀ x ∈ l,x ≤ b) : l.sum ≤ b * l.length:=by
 induction l with
 | nil => simp
 | cons a l ih =>
   rw [List.sum_cons,List.length_cons,Nat.mul_succ]
   have h1:=h a List.mem_cons_self
   have h2:=ih fun x hx => h x (List.mem_cons_of_mem _ hx)
   omega
theorem si (xs : List V) (h : 1 ≤ xs.length) : eW xs (some 1) none = xs.tail:=by
 unfold eW
 have e1 : HT.bf xs.length 0 (some 1) = 1:=by
  have:=HT.o5 xs.length 0 1
  rw [Nat.min_eq_left h] at this
  exact this
 rw [e1,HT.WS,List.drop_one,List.take_of_length_le (by rw [List.length_tail]; omega)]
theorem vS (xs : List V) (h : 1 ≤ xs.length) : ¬ (HT.bf xs.length 0 (some 1) = 0 ∧ HT.bf xs.length xs.length none = xs.length):=by
 have e1 : HT.bf xs.length 0 (some 1) = 1:=by
  have:=HT.o5 xs.length 0 1
  rw [Nat.min_eq_left h] at this
  exact this
 rw [e1]
 simp
def Uj (_ : Ad) : Sp:=fun vs H Q _ => ∃ (p : Addr) (m : Msg),vs = [.ref p] ∧ H p = some (.tup (dM m)) ∧ sQ m ∧ ∀ (H' : Hp) (b : Addr),ao H H' → H' b = some (.lst ((Vbahap.ints (Vbahap.textOf m)).map V.int)) → H b = none → Q (.ref b) H'
theorem XU (T : Txt w.params K mg A) : aE P w K mg base aQ 2 A.jR A.qF ["message"] (Uj A):=by
 have nd:=Ha.nd
 have lM:=pX (P:=P) (w:=w) (base:=base) T
 refine T.sR.ok Ha (fun vs H Q E h => ?_) (fun cdv AA outer s H vs Q E hr h => ?_)
 ·obtain ⟨p,m,rfl,hp,hm,k⟩:=h
  rfl
 ·obtain ⟨p,m,rfl,hp,hm,k⟩:=h
  have lB : aq 1 _:=hr.mono (by decide)
  have hu:=aZ hr
  refine ⟨_,(au (bI (i:=1) nd rfl (Or.inl rfl) (a6 cb (fv (v:=V.ref A.dv) rfl T.dv rfl) (a6 cb (pv 0) ay (fun _ _ => rfl)) (fun _ _ => rfl)))
   (au (bI (i:=2) nd rfl (Or.inl rfl) (bA (aa (a6 cb (pv 1) ay (fun _ _ => rfl)) ae)))
   (au (dz PassesOwn.never rfl (uK (k1:=.t) (k2:=.t) rfl T.qd (aa (m7 ud (pv 1) (lX ay) o9) (aa (m7 ud (pv 0) (lX ay) o9) ae))) (k8 rfl (dW (ck (i:=3) nd rfl (Or.inl rfl)) (dW (ck (i:=4) nd rfl (Or.inl rfl)) k7)))
    (ah (bB (gr PySem.F.plainAttrs_list PySem.F.slot_list_append PySem.F.type_list_append lr (pv 2) (aa (lZ (m4 (Kl T.oU (pv 3) (fv (v:=V.ref A.dE) rfl T.dE rfl))) (nh QC (by rfl) T.wd QQ (aa (pv 4) ae)) (a6 cb (fv (v:=V.ref A.du) rfl T.du rfl) (cW lb (pv 4) ay) (fun _ _ => rfl))) ae)))))
   (ah (aT (cw lM lB rfl T.nV T.lO.kp T.sE .nil aB (aa (XI XF (pv 2)) ae))))))),?_⟩
  obtain ⟨hf4,hmv,hln,hl4,hk4,hfine⟩:=aa2 m hm
  obtain ⟨xs,hx,hxl,hxi⟩:=T.cP
  obtain ⟨fa,hfa,hfs⟩:=hxi _ _ hf4
  have hpq : a4 K H p (V.int (d5 m : Nat) :: (numsOf m).map (fun n : Nat => V.int (n : Int))):=by rw [← hmv]; exact a4.of hp
  refine ⟨_,rfl,p,_,_,_,rfl,rfl,hpq,dw,A.dv,_,_,_,rfl,rfl,hx _,ef hfa,?_⟩
  refine ⟨_,rfl,fa,_,_,_,rfl,rfl,hfs _,dw,(by show 1 ≤ sizeLine; decide),fun L hL => ?_⟩
  have s1 : ao H (upd H L (.lst [V.str (headOf m)])):=aU hL
  have hL1 : upd H L (.lst [V.str (headOf m)]) L = some (.lst [V.str (headOf m)]):=af
  generalize upd H L (.lst [V.str (headOf m)]) = H1 at s1 hL1 ⊢
  have hp1 : H1 p = some (.tup (V.int (d5 m : Nat) :: (numsOf m).map (fun n : Nat => V.int (n : Int)))):=by rw [← hmv]; exact s1 _ _ hp
  refine ⟨_,rfl,1,rfl,fa,_,rfl,hfs _,vS _ (by simp),fun S1 hS1 => ?_⟩
  rw [si _ (by simp)]
  have s2 : ao H1 (upd H1 S1 (.tup ((headOf m :: namesOf m).map V.str).tail)):=aU hS1
  have hS1' : upd H1 S1 (.tup ((headOf m :: namesOf m).map V.str).tail) S1 = some (.tup ((namesOf m).map V.str)):=af
  generalize upd H1 S1 (.tup ((headOf m :: namesOf m).map V.str).tail) = H2 at s2 hS1' ⊢
  refine ⟨_,rfl,1,rfl,p,_,rfl,a4.of (s2 _ _ hp1),vS _ (by simp),fun S2 hS2 => ?_⟩
  rw [si _ (by simp)]
  have s3 : ao H2 (upd H2 S2 (.tup (V.int (d5 m : Nat) :: (numsOf m).map (fun n : Nat => V.int (n : Int))).tail)):=aU hS2
  have hS2' : upd H2 S2 (.tup (V.int (d5 m : Nat) :: (numsOf m).map (fun n : Nat => V.int (n : Int))).tail) S2 = some (.tup ((numsOf m).map (fun n : Nat => V.int (n : Int)))):=af
  generalize upd H2 S2 (.tup (V.int (d5 m : Nat) :: (numsOf m).map (fun n : Nat => V.int (n : Int))).tail) = H3 at s3 hS2' ⊢
  have hS1'':=s3 _ _ hS1'
  have hL3:=s3 _ _ (s2 _ _ hL1)
  have nL1 : S1 ≠ L:=cz hS1'' hL3 (by show (["t"] : List Str) ≠ (["l"] : List Str); decide +kernel)
  have nL2 : S2 ≠ L:=cz hS2' hL3 (by show (["t"] : List Str) ≠ (["l"] : List Str); decide +kernel)
  have hLn : H L = none:=hL
  have done : ∀ H4,(∀ c o,H3 c = some o → c ≠ L → H4 c = some o) → ao H H4:=fun H4 kp c o e => kp c o (s3 _ _ (s2 _ _ (s1 _ _ e))) (fun z => by rw [z,hLn] at e; cases e)
  refine ⟨S1,S2,_,_,rfl,a4.of hS1'',a4.of hS2',Be (K:=K) (k1:=.t) (k2:=.t) (a:=S1) (b:=S2) (xs:=(namesOf m).map V.str) (ys:=(numsOf m).map (fun n : Nat => V.int (n : Int))) (fun i σ H4 => ∃ (u v : Option V),σ = [some (.ref p),some (.ref fa),some (.ref L),u,v] ∧ (∀ c o,H3 c = some o → c ≠ L → H4 c = some o) ∧ H4 L = some (.lst ((headOf m :: (((namesOf m).zip (numsOf m)).take i).map fun q => cu q.1 q.2).map V.str))) ?_ ?_ ?_ ?_⟩
  ·exact ⟨none,none,rfl,fun c o e _ => e,hL3⟩
  ·rintro i σ H4 ⟨u,v,_,kp,_⟩
   exact ⟨a4.of (kp _ _ hS1'' nL1),a4.of (kp _ _ hS2' nL2)⟩
  ·rintro i x y T0 σ H4 hi hj hT0 ⟨u,v,rfl,kp,hLL⟩
   obtain ⟨name,hname,rfl⟩:=dk hi
   obtain ⟨num,hnum,rfl⟩:=dk (g:=fun n : Nat => V.int (n : Int)) hj
   have hz : ((namesOf m).zip (numsOf m))[i]? = some (name,num):=by
    rw [List.getElem?_zip_eq_some]
    exact ⟨hname,hnum⟩
   have fine:=hfine _ (List.mem_of_getElem? hz)
   have nLT : L ≠ T0:=bj hLL hT0
   have hTT : upd H4 T0 (.tup [V.str name,V.int (num : Int)]) T0 = some (.tup [V.str name,V.int (num : Int)]):=af
   have hLT : upd H4 T0 (.tup [V.str name,V.int (num : Int)]) L = some (.lst ((headOf m :: (((namesOf m).zip (numsOf m)).take i).map fun q => cu q.1 q.2).map V.str)):=by rw [ag nLT]; exact hLL
   have kp2 : ∀ c o,H3 c = some o → c ≠ L → upd H4 T0 (.tup [V.str name,V.int (num : Int)]) c = some o:=fun c o e n => aU hT0 _ _ (kp c o e n)
   generalize upd H4 T0 (.tup [V.str name,V.int (num : Int)]) = H5 at hTT hLT kp2 ⊢
   refine ⟨T0,_,rfl,a4.of hTT,rfl,_,_,rfl,_,_,rfl,rfl,?_⟩
   refine ⟨_,rfl,.inl ⟨rfl,_,az.of hLT⟩,?_⟩
   have app : ∃ l xs y,V.ref L = .ref l ∧ [V.str (cu name num)] = [y] ∧ H5 l = some (.lst xs) ∧ xs.length < sizeLine ∧ (∃ (u v : Option V),[some (V.ref p),some (V.ref fa),some (V.ref L),some (V.str name),some (V.int (num : Int))] = [some (.ref p),some (.ref fa),some (.ref L),u,v] ∧ (∀ c o,H3 c = some o → c ≠ L → upd H5 l (.lst (xs ++ [y])) c = some o) ∧ upd H5 l (.lst (xs ++ [y])) L = some (.lst ((headOf m :: (((namesOf m).zip (numsOf m)).take (i + 1)).map fun q => cu q.1 q.2).map V.str))):=by
    refine ⟨L,_,_,rfl,rfl,hLT,?_,_,_,rfl,fun c o e n => by rw [ag n]; exact kp2 c o e n,?_⟩
    ·rw [List.length_map,List.length_cons,List.length_map,List.length_take,List.length_zip,sizeLine_eq]
     omega
    ·rw [af,take_snoc hz,List.map_append,← List.cons_append,List.map_append]
     rfl
   obtain ⟨b1,b2,b3,b4,b5,b6⟩:=adO A
   rcases fine with ⟨rfl,f1,f2⟩ | ⟨f1,f2⟩
   ·refine ⟨_,rfl,_,rfl,_,rfl,?_⟩
    rw [b6]
    refine a8 ?_
    have e1 : ((num : Nat) : Int) - 1 = ((num - 1 : Nat) : Int):=by omega
    have hat : (jH.map V.str)[num - 1]? = some (V.str (cu "letter" num)):=by
     unfold cu
     rw [if_pos rfl]
     have : num = 1 ∨ num = 2 ∨ num = 3 ∨ num = 4 ∨ num = 5:=by omega
     rcases this with rfl | rfl | rfl | rfl | rfl <;> rfl
    refine ⟨_,rfl,_,_,rfl,rfl,A.du,_,_,_,rfl,rfl,T.letters _,at_of e1 hat,app⟩
   ·refine ⟨_,rfl,_,rfl,_,rfl,?_⟩
    have bs : (A.bounds.lookup name).isSome = true:=by
     have h' : name = "r" ∨ name = "no" ∨ name = "flight" ∨ name = "seats" ∨ name = "version":=by simpa using f1
     rcases h' with rfl | rfl | rfl | rfl | rfl
     ·exact b1
     ·exact b2
     ·exact b3
     ·exact b4
     ·exact b5
    rw [bs]
    refine bc ?_
    have ne : name ≠ "letter":=fun z => by
     dsimp only at f1
     rw [z] at f1
     exact absurd f1 (by decide +kernel)
    have ep : (Str.ofString (toString ((num : Nat) : Int))) = cu name num:=by unfold cu; rw [if_neg ne]
    refine ⟨_,rfl,_,rfl,?_,?_⟩
    ·show ((num : Nat) : Int).natAbs.log2 < 1920
     rw [Int.natAbs_natCast]
     exact Lp (Nat.lt_trans f2 (by decide))
    ·rw [← ep] at app
     exact app
  ·rintro i σ H4 hend hi1 hi2 ⟨u,v,rfl,kp,hLL⟩
   rw [List.length_map] at hi1 hi2
   rw [List.length_map,List.length_map] at hend
   have ei : ((namesOf m).zip (numsOf m)).take i = (namesOf m).zip (numsOf m):=List.take_of_length_le (by rw [List.length_zip]; omega)
   rw [ei] at hLL
   have hLL' : H4 L = some (.lst ((dU m).map V.str)):=hLL
   have plen : ∀ x ∈ (dU m).map (·.length),x ≤ 9:=fun x hx => by
    obtain ⟨y,hy,rfl⟩:=List.mem_map.mp hx
    rcases List.mem_cons.mp hy with z | z
    ·rw [z]
     have hk : ∀ j,j < 4 → ((eU.getD j []).headD "?").length ≤ 9:=by decide +kernel
     exact hk _ hk4
    ·obtain ⟨q,hq,rfl⟩:=List.mem_map.mp z
     exact Xy (hfine q hq)
   have pl : (dU m).length ≤ 5:=by
    unfold dU
    rw [List.length_cons,List.length_map,List.length_zip]
    omega
   have ps:=Uc plen
   rw [List.length_map] at ps
   have ej : tl (Txt.join " " (dU m)) = Vbahap.textOf m:=by
    rw [join_eq,Gh,show tl (" " : Str) = [32] by decide +kernel]
    exact GO m hm
   refine ⟨⟨_,rfl⟩,_,rfl,_,L,dU m,rfl,rfl,.inl (az.of hLL'),?_,?_⟩
   ·show ((dU m).map (·.length)).sum + (dU m).length * 1 ≤ 16777216
    omega
   ·refine ⟨_,rfl,?_,fun b hb => ?_⟩
    ·show (Txt.join " " (dU m)).length ≤ 100000
     rw [str_len,ej]
     have : (Vbahap.textOf m).length ≤ (dU m).length * 10 + 100:=by
      rw [← GO m hm]
      have jl : ∀ l : List (List Nat),(eQ [32] l).length ≤ (l.map List.length).sum + l.length:=by
       intro l
       induction l with
       | nil => simp [eQ]
       | cons a l ih =>
         cases l with
         | nil => simp [eQ]
         | cons b r =>
           show (a ++ ([32] ++ eQ [32] (b :: r))).length ≤ _
           rw [List.length_append,List.length_append,List.map_cons,List.sum_cons,List.length_cons (a:=a)]
           have:=ih
           simp only [List.length_singleton]
           omega
      have:=jl ((dU m).map tl)
      rw [List.map_map,List.length_map] at this
      have e2 : (dU m).map (List.length ∘ tl) = (dU m).map (·.length):=List.map_congr_left fun x _ => (str_len x).symm
      rw [e2] at this
      omega
     omega
    ·have sH:=done _ kp
     have hb0 : H b = none:=sH.free hb
     refine k _ b (sH.trans (aU hb)) ?_ hb0
     rw [af]
     unfold cQ
     rw [ej]
     rfl
end
end Sh
end
section
namespace Sh
open PySem PySem.Spec PyProof.Rows L2 TL
open Vbahap (State Truth View Flight Msg Bytes decimal pieces)
section
variable {P : Program} {w : World} {K : PySem.W.Frag} {mg : Str → Option Value} {base : Heap} {A : Ad}
theorem lW {H H1 : Hp} {a : Addr} {o : HO} (s : ao H H1) (ha : H a = none) : ao H (upd H1 a o):=fun c u e => by
 have n : c ≠ a:=fun z => by
  rw [z,ha] at e
  cases e
 rw [ag n]
 exact s c u e
theorem SV (c : Nat) : decide (V.int (c : Int) = V.int 32) = decide (c = 32):=ie (a:=c) (b:=32)
def eF (H : Hp) (as : List Addr) (ps : List Bytes) : Prop:=as.length = ps.length ∧ ∀ (i : Nat) (a : Addr) (pc : Bytes),as[i]? = some a → ps[i]? = some pc → H a = some (.lst ((zs pc).map V.int))
theorem eF.same {H H' : Hp} {as : List Addr} {ps : List Bytes} (h : eF H as ps) (s : ao H H') : eF H' as ps:=⟨h.1,fun i a pc e1 e2 => s _ _ (h.2 i a pc e1 e2)⟩
theorem eF.over {H : Hp} {as : List Addr} {ps : List Bytes} {b : Addr} {o : HO} (h : eF H as ps) (n : b ∉ as) : eF (upd H b o) as ps:=⟨h.1,fun i a pc e1 e2 => by
 have : a ≠ b:=fun z => n (z ▸ List.mem_of_getElem? e1)
 rw [ag this]
 exact h.2 i a pc e1 e2⟩
theorem eF.snoc {H : Hp} {as : List Addr} {ps : List Bytes} {a : Addr} {pc : Bytes} (h : eF H as ps) (ha : H a = some (.lst ((zs pc).map V.int))) : eF H (as ++ [a]) (ps ++ [pc]):=by
 refine ⟨by rw [List.length_append,List.length_append,h.1]; rfl,fun i b qc e1 e2 => ?_⟩
 by_cases c : i < as.length
 ·rw [List.getElem?_append_left c] at e1
  rw [List.getElem?_append_left (by rw [← h.1]; exact c)] at e2
  exact h.2 i b qc e1 e2
 ·rw [List.getElem?_append_right (by omega)] at e1
  rw [List.getElem?_append_right (by rw [← h.1]; omega)] at e2
  have l1:=(List.getElem?_eq_some_iff.mp e1).1
  rw [List.length_singleton] at l1
  have i0 : i - as.length = 0:=by omega
  rw [i0] at e1
  rw [← h.1,i0] at e2
  cases e1
  cases e2
  exact ha
def Us (_ : Ad) : Sp:=fun vs H Q _ => ∃ (p : Addr) (b : Bytes),vs = [.ref p] ∧ H p = some (.lst ((zs b).map V.int)) ∧ b.length ≤ 1000 ∧ ∀ (H' : Hp) (q : Addr) (as : List Addr),ao H H' → H' q = some (.lst (as.map V.ref)) → eF H' as (pieces b) → Q (.ref q) H'
theorem X2 (T : Txt w.params K mg A) : aE P w K mg base aQ 1 A.jZ A.qN ["text"] (Us A):=by
 have nd:=Hi.nd
 refine T.sY.ok Hi (fun vs H Q E h => ?_) (fun cdv AA outer s H vs Q E hr h => ?_)
 ·obtain ⟨p,b,rfl,hp,hb,k⟩:=h
  rfl
 ·obtain ⟨p,b,rfl,hp,hb,k⟩:=h
  have hu:=aZ hr
  refine ⟨_,(au (bI (i:=1) nd rfl (Or.inl rfl) (bA (aa (bA ae) ae)))
   (au (dz PassesOwn.never rfl (fu (pv 0)) (ck (i:=2) nd rfl (Or.inl rfl))
    (ah (bo (bz eA (pv 2) (bg T.QP) (bp _)) (ah (bB (gr PySem.F.plainAttrs_list PySem.F.slot_list_append PySem.F.type_list_append lr (pv 1) (aa (bA ae) ae)))) (ah (bB (gr PySem.F.plainAttrs_list PySem.F.slot_list_append PySem.F.type_list_append lr (a6 bV (pv 1) (XE SW ay) (fun _ _ => rfl)) (aa (pv 2) ae)))))))
   (ah (aT (pv 1))))),?_⟩
  refine ⟨Nat.zero_le _,fun a ha => ⟨(by show 1 ≤ sizeLine; decide),fun q hq => ?_⟩⟩
  have qa:=kr hq
  have sA : ao H (upd (upd H a (.lst [])) q (.lst [V.ref a])):=lW (aU ha) qa.2
  have hq1 : upd (upd H a (.lst [])) q (.lst [V.ref a]) q = some (.lst (([] ++ [a] : List Addr).map V.ref)):=af
  have ha1 : upd (upd H a (.lst [])) q (.lst [V.ref a]) a = some (.lst ((zs []).map V.int)):=by rw [ag qa.1.symm]; exact af
  generalize upd (upd H a (.lst [])) q (.lst [V.ref a]) = H1 at sA hq1 ha1 ⊢
  refine ⟨_,rfl,p,rfl,⟨_,az.of (sA _ _ hp)⟩,jQ (K:=K) (a:=p) (xs:=(zs b).map V.int) (fun i σ H4 => ∃ (v : Option V) (as : List Addr) (a : Addr) (done : List Bytes) (cur : Bytes),σ = [some (.ref p),some (.ref q),v] ∧ ao H H4 ∧ H4 q = some (.lst ((as ++ [a]).map V.ref)) ∧ eF H4 as done ∧ H4 a = some (.lst ((zs cur).map V.int)) ∧ done ++ glue cur (pieces (b.drop i)) = pieces b ∧ H a = none ∧ a ≠ q ∧ a ∉ as ∧ q ∉ as ∧ as.length ≤ i ∧ cur.length ≤ i) ?_ ?_ ?_ ?_⟩
  ·exact ⟨none,[],a,[],[],rfl,sA,hq1,⟨rfl,fun i a pc e => by simp at e⟩,ha1,by rw [List.drop_zero,acu]; rfl,ha,qa.1.symm,by simp,by simp,Nat.le_refl _,Nat.le_refl _⟩
  ·rintro i σ H4 _ ⟨v,as,a,done,cur,_,s4,_⟩
   exact az.of (s4 _ _ hp)
  ·rintro i x σ H4 hi ⟨v,as,a,done,cur,rfl,s4,hq4,pc,ha4,eg,nH,naq,na,nq,hal,hcl⟩
   obtain ⟨z,hz,rfl⟩:=dk hi
   obtain ⟨c,hc,rfl⟩ : ∃ c : Nat,b[i]? = some c ∧ z = (c : Int):=by
    unfold zs at hz
    rw [List.getElem?_map,Option.map_eq_some_iff] at hz
    obtain ⟨c,h1,h2⟩:=hz
    exact ⟨c,h1,h2.symm⟩
   have hlt:=(List.getElem?_eq_some_iff.mp hc).1
   have ed : b.drop i = c :: b.drop (i + 1):=by
    rw [List.drop_eq_getElem_cons hlt,(List.getElem?_eq_some_iff.mp hc).2]
   rw [ed] at eg
   refine ⟨_,rfl,rfl,_,rfl,?_⟩
   rw [SV]
   by_cases c32 : c = 32
   ·subst c32
    refine bc ?_
    refine ⟨_,rfl,.inl ⟨rfl,_,az.of hq4⟩,Nat.zero_le _,fun n hn => ?_⟩
    have nn : H n = none:=s4.free hn
    have nq' : n ≠ q:=(bj hq4 hn).symm
    have na' : n ≠ a:=(bj ha4 hn).symm
    have nas : n ∉ as:=fun hm => by
     obtain ⟨j,hj,e⟩:=List.getElem_of_mem hm
     have e1 : as[j]? = some n:=by rw [List.getElem?_eq_getElem hj,e]
     have e2 : done[j]? = some (done[j]'(by rw [← pc.1]; exact hj)):=List.getElem?_eq_getElem _
     have:=pc.2 j n _ e1 e2
     rw [hn] at this
     cases this
    have hqn : upd H4 n (.lst []) q = some (.lst ((as ++ [a]).map V.ref)):=by rw [ag nq'.symm]; exact hq4
    refine ⟨q,_,_,rfl,rfl,hqn,?_,none.or (some (V.int 32)),as ++ [a],n,done ++ [cur],[],rfl,?_,?_,?_,?_,?_,nn,nq',?_,?_,?_,Nat.zero_le _⟩
    ·rw [List.length_map,List.length_append,List.length_singleton,sizeLine_eq]
     omega
    ·exact lW (lW s4 nn) qa.2
    ·rw [af,List.map_append (l₁:=as ++ [a])]
     rfl
    ·refine eF.over ?_ (by simp [nq,naq.symm])
     exact (pc.snoc ha4).same (aU hn)
    ·rw [ag nq',af]
     rfl
    ·rw [← eg,acw,List.append_assoc]
     rfl
    ·simp [nas,na']
    ·simp [nq,naq.symm]
    ·rw [List.length_append,List.length_singleton]; omega
   ·rw [decide_eq_false c32]
    refine a8 ?_
    have hlast : cS ((as ++ [a]).map V.ref) (-1) = some (V.ref a):=by
     rw [List.map_append]
     exact aeJ _ _
    refine ⟨_,rfl,_,rfl,q,_,_,V.ref a,rfl,rfl,az.of hq4,hlast,?_⟩
    ·refine ⟨.inl ⟨rfl,_,az.of ha4⟩,_,rfl,a,_,_,rfl,rfl,ha4,?_,some (V.int (c : Int)),as,a,done,cur ++ [c],rfl,?_,?_,?_,?_,?_,nH,naq,na,nq,?_,?_⟩
     ·unfold zs
      rw [List.length_map,List.length_map,sizeLine_eq]
      omega
     ·exact lW s4 nH
     ·rw [ag naq.symm]; exact hq4
     ·exact pc.over na
     ·rw [af]
      unfold zs
      rw [List.map_append,List.map_append]
      rfl
     ·rw [← eg,acv cur c32]
     ·omega
     ·rw [List.length_append,List.length_singleton]; omega
  ·rintro σ H4 ⟨v,as,a,done,cur,rfl,s4,hq4,pc,ha4,eg,_⟩
   have e0 : b.drop ((zs b).map V.int).length = []:=by
    unfold zs
    rw [List.length_map,List.length_map,List.drop_length]
   rw [e0] at eg
   refine ⟨_,rfl,k H4 q (as ++ [a]) s4 hq4 ?_⟩
   rw [← eg]
   have eg1 : glue cur (pieces []) = [cur]:=by
    show (cur ++ []) :: [] = [cur]
    rw [List.append_nil]
   rw [eg1]
   exact pc.snoc ha4
theorem SH {b : Bytes} {i : Nat} {c : Nat} (h : b[i]? = some c) : (zs (b.take (i + 1))).foldl (fun n c => n * 10 + c - 48) (0 : Int) = (zs (b.take i)).foldl (fun n c => n * 10 + c - 48) (0 : Int) * 10 + (c : Int) - 48:=by
 rw [take_snoc h]
 unfold zs
 rw [List.map_append,List.foldl_append]
 rfl
def Uq (K : PySem.W.Frag) (_ : Ad) : Sp:=fun vs H Q _ => ∃ (p q : Addr) (b : Bytes) (lo hi : Nat),vs = [.ref p,.ref q] ∧ H p = some (.lst ((zs b).map V.int)) ∧ b.length ≤ 1000 ∧ (∀ H,a4 K H q [V.int (lo : Nat),V.int (hi : Nat)]) ∧ hi < 10 ^ 9 ∧ ∀ H',ao H H' → Q (match Vbahap.numberOf lo hi b with | none => .aC | some n => .int (n : Nat)) H'
theorem X0 (T : Txt w.params K mg A) : aE P w K mg base aQ 2 A.jX A.qL ["piece","bounds"] (Uq K A):=by
 have nd:=Hg.nd
 have lM:=pX (P:=P) (w:=w) (base:=base) T
 refine T.sW.ok Hg (fun vs H Q E h => ?_) (fun cdv AA outer s H vs Q E hr h => ?_)
 ·obtain ⟨p,q,b,lo,hi,rfl,hp,hb,hq,hh,k⟩:=h
  rfl
 ·obtain ⟨p,q,b,lo,hi,rfl,hp,hb,hq,hh,k⟩:=h
  have lB : aq 1 _:=hr.mono (by decide)
  have hu:=aZ hr
  have hu64:=hr.units
  refine ⟨_,(au (bI (i:=2) nd rfl (Or.inl rfl) ay)
   (au (dz PassesOwn.never rfl (fu (pv 0)) (ck (i:=3) nd rfl (Or.inl rfl))
    (ah (bI (i:=2) nd rfl (Or.inl rfl) (cW lb (cW jD (cW XR (pv 2) ay) (pv 3)) (bg T.QE)))))
   (au (bo (PW.pt (mX (bz lg (pv 2) (a6 cb (pv 1) ay (fun _ _ => rfl)) (bp _)) (o8 (bz nu (pv 2) (a6 cb (pv 1) ay (fun _ _ => rfl)) (bp _))))) (ah (aT dA)) bH)
   (ah (aT (lZ (bz (vO hu64) (cw lM lB rfl T.nV T.lO.kp T.sE .nil aB (aa (nh QC (by rfl) T.wd QQ (aa (pv 2) ae)) ae)) (pv 0) (bp _)) (pv 2) dA)))))),?_⟩
  refine ⟨_,rfl,p,rfl,⟨_,az.of hp⟩,jQ (K:=K) (a:=p) (xs:=(zs b).map V.int) (fun i σ H4 => ∃ (v : Option V),σ = [some (.ref p),some (.ref q),some (.int (valZ (zs (b.take i)))),v] ∧ H4 = H) ?_ ?_ ?_ ?_⟩
  ·exact ⟨none,rfl,rfl⟩
  ·rintro i σ H4 _ ⟨v,_,rfl⟩
   exact az.of hp
  ·rintro i x σ H4 hi ⟨v,rfl,rfl⟩
   obtain ⟨z,hz,rfl⟩:=dk hi
   obtain ⟨c,hc,rfl⟩ : ∃ c : Nat,b[i]? = some c ∧ z = (c : Int):=by
    unfold zs at hz
    rw [List.getElem?_map,Option.map_eq_some_iff] at hz
    obtain ⟨c,h1,h2⟩:=hz
    exact ⟨c,h1,h2.symm⟩
   refine ⟨_,rfl,_,_,rfl,rfl,.inr (by decide),_,rfl,_,_,rfl,rfl,_,_,rfl,rfl,some (V.int (c : Int)),?_,rfl⟩
   show [some (V.ref p),some (V.ref q),some (V.int (valZ (zs (b.take i)) * 10 + (c : Int) - 48)),some (V.int (c : Int))] = _
   unfold valZ
   rw [SH hc]
  ·rintro σ H4 ⟨v,rfl,rfl⟩
   have e0 : b.take ((zs b).map V.int).length = b:=by
    unfold zs
    rw [List.length_map,List.length_map,List.take_length]
   rw [e0]
   have nr:=aaL (lo:=lo) hh b
   have kk : ∀ H',ao H4 H' → Q (match (Vbahap.numberOf lo hi b).map Int.ofNat with | none => .aC | some n => .int n) H':=fun H' s => by
    have:=k H' s
    cases q : Vbahap.numberOf lo hi b with
    | none => rw [q] at this; exact this
    | some n => rw [q] at this; exact this
   rw [nr] at kk
   have fin : (valZ (zs b) < lo ∨ (hi : Int) < valZ (zs b)) → Q .aC H4:=fun c => by
    have:=kk H4 (ao.refl _)
    rw [if_pos c] at this
    exact this
   refine ⟨_,rfl,_,rfl,q,_,_,_,rfl,rfl,hq _,dw,_,_,rfl,rfl,_,rfl,?_⟩
   by_cases c1 : valZ (zs b) < lo
   ·rw [decide_eq_true c1]
    refine bc (bc ?_)
    exact fin (.inl c1)
   ·rw [decide_eq_false c1]
    refine a8 ?_
    refine ⟨_,rfl,_,rfl,q,_,_,_,rfl,rfl,hq _,lI,_,_,rfl,rfl,_,rfl,?_⟩
    by_cases c2 : (hi : Int) < valZ (zs b)
    ·rw [decide_eq_true c2]
     refine bc ?_
     exact fin (.inr c2)
    ·rw [decide_eq_false c2]
     refine a8 ?_
     have hn : valZ (zs b) = ((valZ (zs b)).toNat : Int):=by omega
     refine ⟨_,rfl,_,rfl,?_,?_⟩
     ·exact Lp (Nat.lt_trans (by omega : (valZ (zs b)).natAbs < 10 ^ 9) (by decide))
     ·have eN : cQ (Str.ofString (toString (valZ (zs b)))) = zs (decimal (valZ (zs b)).toNat):=by
       have:=adw (valZ (zs b)).toNat
       rw [← hn] at this
       exact this
      refine ⟨_,rfl,?_,fun d hd => ?_⟩
      ·have l1 : (tl (Str.ofString (toString (valZ (zs b))))).length = (decimal (valZ (zs b)).toNat).length:=by
        have:=congrArg List.length eN
        unfold cQ zs at this
        rw [List.length_map,List.length_map] at this
        exact this
       have l2:=(qE (valZ (zs b)).toNat).len 9 (by decide) (by omega)
       show (Str.ofString (toString (valZ (zs b)))).length ≤ 100000
       rw [str_len,l1]
       omega
      ·have dp : p ≠ d:=bj hp hd
       refine ⟨_,rfl,Bi (K:=K) (xs:=cQ (Str.ofString (toString (valZ (zs b))))) (ys:=zs b) (az.of af) (az.of (by rw [ag dp]; exact hp)) ?_⟩
       refine ⟨_,rfl,?_⟩
       rw [eN]
       have kf:=kk _ (aU (o:=.lst ((zs (decimal (valZ (zs b)).toNat)).map V.int)) hd)
       rw [if_neg (by omega)] at kf
       by_cases ce : zs (decimal (valZ (zs b)).toNat) = zs b
       ·rw [decide_eq_true ce]
        rw [if_pos ce] at kf
        refine bc ?_
        exact ⟨_,rfl,kf⟩
       ·rw [decide_eq_false ce]
        rw [if_neg ce] at kf
        refine a8 ?_
        exact kf
def Ur (_ : Ad) : Sp:=fun vs H Q _ => ∃ (p : Addr) (b : Bytes),vs = [.ref p] ∧ H p = some (.lst ((zs b).map V.int)) ∧ ∀ H',ao H H' → Q (match Vbahap.statusOf b with | none => .aC | some n => .int (n : Nat)) H'
theorem abg {i : Nat} {x : Str} (h : jH[i]? = some x) : x.cps.size ≤ 100000 ∧ ∃ y,gA[i]? = some y ∧ cQ x = zs y:=by
 have hi:=(List.getElem?_eq_some_iff.mp h).1
 have hall : ∀ j,j < 5 → (jH.getD j "?").cps.size ≤ 100000 ∧ cQ (jH.getD j "?") = zs (gA.getD j []):=by decide +kernel
 have h5 : i < 5:=hi
 have:=hall i h5
 have e1 : jH.getD i "?" = x:=by rw [List.getD_eq_getElem?_getD,h]; rfl
 rw [e1] at this
 refine ⟨this.1,gA.getD i [],?_,this.2⟩
 have hl : i < gA.length:=h5
 rw [List.getD_eq_getElem?_getD,List.getElem?_eq_getElem hl]
 rfl
theorem FR {x y : Bytes} (e : zs x = zs y) : x = y:=by
 have:=congrArg (List.map Int.toNat) e
 unfold zs at this
 rw [List.map_map,List.map_map] at this
 have id1 : (Int.toNat ∘ Int.ofNat) = id:=by funext n; rfl
 rwa [id1,List.map_id,List.map_id] at this
theorem ac5 {α : Type} {l : List α} {f : α → Bool} {i : Nat} (h : ∀ j x,j < i → l[j]? = some x → f x = false) : l.findIdx? f = ((l.drop i).findIdx? f).map (· + i) ∨ l.length < i:=by
 induction i generalizing l with
 | zero => left; rw [List.drop_zero]; cases l.findIdx? f <;> rfl
 | succ i ih =>
   cases l with
   | nil => right; simp
   | cons a l =>
     have h0:=h 0 a (by omega) rfl
     rcases ih (l:=l) (fun j x hj e => h (j + 1) x (by omega) e) with q | q
     ·left
      rw [List.findIdx?_cons,h0,List.drop_succ_cons,q]
      cases (l.drop i).findIdx? f with
      | none => rfl
      | some n => show some (n + i + 1) = some (n + (i + 1)); rw [Nat.add_assoc]
     ·right; rw [List.length_cons]; omega
theorem X1 (T : Txt w.params K mg A) : aE P w K mg base aQ 2 A.jY A.qM ["piece"] (Ur A):=by
 have nd:=Hh.nd
 have lM:=pX (P:=P) (w:=w) (base:=base) T
 refine T.sX.ok Hh (fun vs H Q E h => ?_) (fun cdv AA outer s H vs Q E hr h => ?_)
 ·obtain ⟨p,b,rfl,hp,k⟩:=h
  rfl
 ·obtain ⟨p,b,rfl,hp,k⟩:=h
  have lB : aq 1 _:=hr.mono (by decide)
  have hu:=aZ hr
  have hu64:=hr.units
  refine ⟨_,(au (dz PassesOwn.never rfl (Ke rfl T.we (aa (fv (v:=V.ref A.du) rfl T.du rfl) ae)) (k8 rfl (dW (ck (i:=1) nd rfl (Or.inl rfl)) (dW (ck (i:=2) nd rfl (Or.inl rfl)) k7)))
   (ah (bo (bz (vO hu64) (cw lM lB rfl T.nV T.lO.kp T.sE .nil aB (aa (pv 2) ae)) (pv 0) (bp _)) (ah (aT (cW jD (pv 1) ay))) bH)))
   (ah (aT dA))),?_⟩
  rw [Ue] at k
  refine ⟨A.du,_,rfl,T.letters _,Nq (K:=K) (a:=A.du) (xs:=jH.map V.str) (fun i σ H4 => ∃ (u v : Option V),σ = [some (.ref p),u,v] ∧ ao H H4 ∧ ∀ (j : Nat) (y : Bytes),j < i → gA[j]? = some y → (y == b) = false) ?_ ?_ ?_ ?_⟩
  ·exact ⟨none,none,rfl,ao.refl _,fun j y h => absurd h (Nat.not_lt_zero _)⟩
  ·rintro i σ H4 _
   exact T.letters _
  ·rintro i x T0 σ H4 hi hT0 ⟨u,v,rfl,s4,no⟩
   obtain ⟨x,hx,rfl⟩:=dk hi
   obtain ⟨hsz,y,hy,ey⟩:=abg hx
   have hTT : upd H4 T0 (.tup [V.int (i : Nat),V.str x]) T0 = some (.tup [V.int (i : Nat),V.str x]):=af
   have s5 : ao H (upd H4 T0 (.tup [V.int (i : Nat),V.str x])):=s4.trans (aU hT0)
   generalize upd H4 T0 (.tup [V.int (i : Nat),V.str x]) = H5 at hTT s5 ⊢
   refine ⟨T0,_,rfl,a4.of hTT,rfl,_,_,rfl,_,_,rfl,rfl,?_⟩
   refine ⟨_,rfl,_,rfl,hsz,fun d hd => ?_⟩
   have hp5:=s5 _ _ hp
   have dp : p ≠ d:=bj hp5 hd
   refine ⟨_,rfl,Bi (K:=K) (xs:=cQ x) (ys:=zs b) (az.of af) (az.of (by rw [ag dp]; exact hp5)) ?_⟩
   refine ⟨_,rfl,?_⟩
   have s6:=s5.trans (aU (o:=.lst ((cQ x).map V.int)) hd)
   by_cases ce : cQ x = zs b
   ·rw [decide_eq_true ce]
    refine bc ?_
    have yb : y = b:=FR (ey.symm.trans ce)
    have ff : gA.findIdx? (fun x => x == b) = some i:=by
     rcases ac5 (i:=i) (f:=fun x : Bytes => x == b) no with q | q
     ·have hlt:=(List.getElem?_eq_some_iff.mp hy).1
      rw [q,List.drop_eq_getElem_cons hlt,(List.getElem?_eq_some_iff.mp hy).2,List.findIdx?_cons]
      have : (y == b) = true:=by simp [yb]
      simp only [this,if_true]
      show some (0 + i) = some i
      rw [Nat.zero_add]
     ·have hlt:=(List.getElem?_eq_some_iff.mp hy).1
      omega
    have kf:=k _ s6
    rw [ff] at kf
    refine ⟨_,rfl,_,_,rfl,rfl,?_⟩
    exact kf
   ·rw [decide_eq_false ce]
    refine a8 ?_
    refine ⟨some (V.int (i : Nat)),some (V.str x),rfl,s6,fun j z hj hz => ?_⟩
    rcases Nat.lt_or_ge j i with h1 | h1
    ·exact no j z h1 hz
    ·have : j = i:=by omega
     subst this
     rw [hy] at hz
     cases hz
     have : y ≠ b:=fun e => ce (by rw [ey,e])
     simpa using this
  ·rintro σ H4 ⟨u,v,rfl,s4,no⟩
   have ff : gA.findIdx? (fun x => x == b) = none:=by
    rw [List.findIdx?_eq_none_iff]
    intro x hx
    obtain ⟨j,hj,e⟩:=List.getElem_of_mem hx
    exact no j x hj (by rw [List.getElem?_eq_getElem hj,e])
   have kf:=k _ s4
   rw [ff] at kf
   exact kf
end
end Sh
end
section
namespace Sh
open PySem PySem.Spec PyProof.Rows L2 TL
open Vbahap (State Truth View Flight Msg Bytes decimal pieces)
section
variable {P : Program} {w : World} {K : PySem.W.Frag} {mg : Str → Option Value} {base : Heap} {A : Ad}
def dg (k : Nat) : Str:=(["r","no","flight","seats","version"] : List Str).getD k "letter"
theorem adP {Pa : Params} (T : Txt Pa K mg A) {k : Nat} (h : k < 5) : ∃ q lo hi : Nat,A.bounds.lookup (dg k) = some (.ref q) ∧ (∀ H,a4 K H q [V.int (lo : Nat),V.int (hi : Nat)]) ∧ hi < 10 ^ 9 ∧ ∀ b,fm k b = Vbahap.numberOf lo hi b:=by
 have : k = 0 ∨ k = 1 ∨ k = 2 ∨ k = 3 ∨ k = 4:=by omega
 unfold Ad.bounds
 rcases this with rfl | rfl | rfl | rfl | rfl
 ·exact ⟨A.kU,0,3,bN,T.Q0,by decide,fun _ => rfl⟩
 ·exact ⟨A.kW,1,999,aY (by decide +kernel) bN,T.Q1,by decide,fun _ => rfl⟩
 ·exact ⟨A.kX,1,9999,aY (by decide +kernel) (aY (by decide +kernel) bN),T.Q2,by decide,fun _ => rfl⟩
 ·exact ⟨A.kT,1,9,aY (by decide +kernel) (aY (by decide +kernel) (aY (by decide +kernel) bN)),T.QY,by decide,fun _ => rfl⟩
 ·exact ⟨A.kS,1,999999,aY (by decide +kernel) (aY (by decide +kernel) (aY (by decide +kernel) (aY (by decide +kernel) bN))),T.QX,by decide,fun _ => rfl⟩
theorem adN (A : Ad) : A.bounds.lookup (dg 5) = none:=by
 unfold Ad.bounds
 rw [mx (by show ("letter" : Str) ∉ (["r","no","flight","seats","version"] : List Str); decide +kernel)]
def l5 (n : Nat) : V:=V.int (n : Int)
theorem IK (k : Nat) (b : Bytes) (l : List (Nat × Bytes)) : readAll ((k,b) :: l) = match fm k b with | none => none | some n => (readAll l).map (n :: ·):=by
 rw [readAll]
 cases fm k b with
 | none => rfl
 | some n => cases readAll l <;> rfl
def Up (K : PySem.W.Frag) (_ : Ad) : Sp:=fun vs H Q _ => ∃ (fa q : Addr) (hd : Str) (ks : List Nat) (as : List Addr) (ps : List Bytes),vs = [.ref fa,.ref q] ∧ (∀ H,a4 K H fa ((hd :: ks.map dg).map V.str)) ∧ (∀ k ∈ ks,k ≤ 5) ∧ ks.length ≤ 4 ∧ H q = some (.lst (as.map V.ref)) ∧ eF H as ps ∧ (∀ pc ∈ ps,pc.length ≤ 1000) ∧ 1 ≤ ps.length ∧
 ∀ H',ao H H' → match readAll (ks.zip ps.tail) with | none => Q .aC H' | some ns => ∀ b,H' b = some (.lst (ns.map l5)) → Q (.ref b) H'
theorem tail_at {α : Type} {l : List α} {i : Nat} : l.tail[i]? = l[i + 1]?:=by
 cases l with
 | nil => rfl
 | cons a l => rfl
theorem XZ (T : Txt w.params K mg A) : aE P w K mg base aQ 3 A.jW A.qK ["form","pieces"] (Up K A):=by
 have nd:=Hf.nd
 have ae4:=X1 (P:=P) (w:=w) (base:=base) T
 have ae3:=X0 (P:=P) (w:=w) (base:=base) T
 refine T.sV.ok Hf (fun vs H Q E h => ?_) (fun cdv AA outer s H vs Q E hr h => ?_)
 ·obtain ⟨fa,q,hd,ks,as,ps,rfl,hfa,hks,hk4,hq,pc,hpl,hp1,k⟩:=h
  rfl
 ·obtain ⟨fa,q,hd,ks,as,ps,rfl,hfa,hks,hk4,hq,pc,hpl,hp1,k⟩:=h
  have abQ : aq 2 _:=hr.mono (by decide)
  have abP : aq 2 _:=hr.mono (by decide)
  have hu:=aZ hr
  refine ⟨_,(au (bI (i:=2) nd rfl (Or.inl rfl) (bA ae))
   (au (dz PassesOwn.never rfl (uK (k1:=.t) (k2:=.l) rfl T.qd (aa (m7 ud (pv 0) (lX ay) o9) (aa (m7 G2 (pv 1) (lX ay) o9) ae))) (k8 rfl (dW (ck (i:=3) nd rfl (Or.inl rfl)) (dW (ck (i:=4) nd rfl (Or.inl rfl)) k7)))
    (au (bI (i:=5) nd rfl (Or.inl rfl) (lZ (m4 (Kl T.oU (pv 3) (fv (v:=V.ref A.dE) rfl T.dE rfl))) (cw ae3 abP rfl T.Na T.sW.kp T.adY .nil aB (aa (pv 4) (aa (XM T.oU (fv (v:=V.ref A.dE) rfl T.dE rfl) (pv 3) (fun _ _ => rfl)) ae))) (cw ae4 abQ rfl T.Nb T.sX.kp T.adZ .nil aB (aa (pv 4) ae))))
   (au (bo (bz gu (pv 5) dA (bp _)) (ah (aT dA)) bH)
   (ah (bB (gr PySem.F.plainAttrs_list PySem.F.slot_list_append PySem.F.type_list_append lr (pv 2) (aa (pv 5) ae)))))))
   (ah (aT (pv 2))))),?_⟩
  refine ⟨Nat.zero_le _,fun L hL => ?_⟩
  have s1 : ao H (upd H L (.lst [])):=aU hL
  have hL1 : upd H L (.lst []) L = some (.lst (([] : List Nat).map l5)):=af
  generalize upd H L (.lst []) = H1 at s1 hL1 ⊢
  refine ⟨_,rfl,1,rfl,fa,_,rfl,hfa _,vS _ (by simp),fun S1 hS1 => ?_⟩
  rw [si _ (by simp)]
  have s2 : ao H1 (upd H1 S1 (.tup ((hd :: ks.map dg).map V.str).tail)):=aU hS1
  have hS1' : upd H1 S1 (.tup ((hd :: ks.map dg).map V.str).tail) S1 = some (.tup ((ks.map dg).map V.str)):=af
  generalize upd H1 S1 (.tup ((hd :: ks.map dg).map V.str).tail) = H2 at s2 hS1' ⊢
  refine ⟨_,rfl,1,rfl,q,_,rfl,az.of (s2 _ _ (s1 _ _ hq)),fun S2 hS2 => ?_⟩
  rw [si _ (by rw [List.length_map,pc.1]; exact hp1)]
  have s3 : ao H2 (upd H2 S2 (.lst (as.map V.ref).tail)):=aU hS2
  have hS2' : upd H2 S2 (.lst (as.map V.ref).tail) S2 = some (.lst (as.tail.map V.ref)):=by rw [af,List.map_tail]
  have nL2 : S2 ≠ L:=(bj (s2 _ _ hL1) hS2).symm
  generalize upd H2 S2 (.lst (as.map V.ref).tail) = H3 at s3 hS2' ⊢
  have hS1'':=s3 _ _ hS1'
  have hL3:=s3 _ _ (s2 _ _ hL1)
  have sH3 : ao H H3:=s1.trans (s2.trans s3)
  have nL1 : S1 ≠ L:=cz hS1'' hL3 (by show (["t"] : List Str) ≠ (["l"] : List Str); decide +kernel)
  have pc3:=pc.same sH3
  have done : ∀ H4,(∀ c o,H3 c = some o → c ≠ L → H4 c = some o) → ao H H4:=fun H4 kp c o e => kp c o (sH3 _ _ e) (fun z => by rw [z,hL] at e; cases e)
  have asL : L ∉ as:=fun hm => by
   obtain ⟨j,hj,e⟩:=List.getElem_of_mem hm
   have e1 : as[j]? = some L:=by rw [List.getElem?_eq_getElem hj,e]
   have e2 : ps[j]? = some (ps[j]'(by rw [← pc.1]; exact hj)):=List.getElem?_eq_getElem _
   have:=pc.2 j L _ e1 e2
   rw [hL] at this
   cases this
  refine ⟨S1,S2,_,_,rfl,a4.of hS1'',az.of hS2',Be (K:=K) (k1:=.t) (k2:=.l) (a:=S1) (b:=S2) (xs:=(ks.map dg).map V.str) (ys:=as.tail.map V.ref) (fun i σ H4 => ∃ (u v t : Option V) (acc : List Nat),σ = [some (.ref fa),some (.ref q),some (.ref L),u,v,t] ∧ (∀ c o,H3 c = some o → c ≠ L → H4 c = some o) ∧ H4 L = some (.lst (acc.map l5)) ∧ acc.length ≤ i ∧ readAll (ks.zip ps.tail) = (readAll ((ks.zip ps.tail).drop i)).map (acc ++ ·)) ?_ ?_ ?_ ?_⟩
  ·refine ⟨none,none,none,[],rfl,fun c o e _ => e,hL3,Nat.le_refl _,?_⟩
   rw [List.drop_zero]
   cases readAll (ks.zip ps.tail) <;> rfl
  ·rintro i σ H4 ⟨u,v,t,acc,_,kp,_⟩
   exact ⟨a4.of (kp _ _ hS1'' nL1),az.of (kp _ _ hS2' nL2)⟩
  ·rintro i x y T0 σ H4 hi hj hT0 ⟨u,v,t,acc,rfl,kp,hLL,hal,era⟩
   obtain ⟨name,hname,rfl⟩:=dk hi
   obtain ⟨kk,hkk,rfl⟩ : ∃ kk,ks[i]? = some kk ∧ name = dg kk:=by
    rw [List.getElem?_map,Option.map_eq_some_iff] at hname
    obtain ⟨c,h1,h2⟩:=hname
    exact ⟨c,h1,h2.symm⟩
   obtain ⟨a,ha,rfl⟩:=dk hj
   rw [tail_at] at ha
   have hlp : i + 1 < ps.length:=by rw [← pc.1]; exact (List.getElem?_eq_some_iff.mp ha).1
   obtain ⟨b,hb⟩ : ∃ b,ps[i + 1]? = some b:=⟨_,List.getElem?_eq_getElem hlp⟩
   have haL : a ≠ L:=fun z => asL (z ▸ List.mem_of_getElem? ha)
   have hab:=kp _ _ (pc3.2 _ _ _ ha hb) haL
   have hbl : b.length ≤ 1000:=hpl b (List.mem_of_getElem? hb)
   have hz : (ks.zip ps.tail)[i]? = some (kk,b):=by
    rw [List.getElem?_zip_eq_some]
    exact ⟨hkk,by rw [tail_at]; exact hb⟩
   have hzl:=(List.getElem?_eq_some_iff.mp hz).1
   have ed : (ks.zip ps.tail).drop i = (kk,b) :: (ks.zip ps.tail).drop (i + 1):=by
    rw [List.drop_eq_getElem_cons hzl,(List.getElem?_eq_some_iff.mp hz).2]
   rw [ed,IK] at era
   have nLT : L ≠ T0:=bj hLL hT0
   have hTT : upd H4 T0 (.tup [V.str (dg kk),V.ref a]) T0 = some (.tup [V.str (dg kk),V.ref a]):=af
   have hLT : upd H4 T0 (.tup [V.str (dg kk),V.ref a]) L = some (.lst (acc.map l5)):=by rw [ag nLT]; exact hLL
   have hab5:=aU (o:=.tup [V.str (dg kk),V.ref a]) hT0 _ _ hab
   have kp2 : ∀ c o,H3 c = some o → c ≠ L → upd H4 T0 (.tup [V.str (dg kk),V.ref a]) c = some o:=fun c o e n => aU hT0 _ _ (kp c o e n)
   generalize upd H4 T0 (.tup [V.str (dg kk),V.ref a]) = H5 at hTT hLT hab5 kp2 ⊢
   refine ⟨T0,_,rfl,a4.of hTT,rfl,_,_,rfl,_,_,rfl,rfl,?_⟩
   refine ⟨_,rfl,_,rfl,_,rfl,?_⟩
   have h5:=hks kk (List.mem_of_getElem? hkk)
   rcases Nat.lt_or_ge kk 5 with h | h
   case' inl =>
    obtain ⟨ba,lo,hi',hlk,hsq,hh,hrd⟩:=adP T h
    rw [show (A.bounds.lookup (dg kk)).isSome = true by rw [hlk]; rfl]
    refine bc ?_
    refine ⟨_,rfl,_,rfl,_,_,rfl,hlk,a,ba,b,lo,hi',rfl,hab5,hbl,hsq,hh,fun H6 s6 => ?_⟩
    rw [← hrd]
   case' inr =>
    have h55 : kk = 5:=by omega
    subst h55
    rw [show (A.bounds.lookup (dg 5)).isSome = false by rw [adN]; rfl]
    refine a8 ?_
    refine ⟨_,rfl,a,b,rfl,hab5,fun H6 s6 => ?_⟩
    rw [show Vbahap.statusOf b = fm 5 b from rfl]
   all_goals
    have kp6 : ∀ c o,H3 c = some o → c ≠ L → H6 c = some o:=fun c o e n => s6 _ _ (kp2 c o e n)
    have hL6:=s6 _ _ hLT
    generalize fm _ b = R at era ⊢
    cases R with
    | none =>
      refine ⟨_,rfl,rfl,_,rfl,?_⟩
      refine bc ?_
      have kf:=k H6 (done _ kp6)
      rw [era] at kf
      exact kf
    | some n =>
      refine ⟨_,rfl,rfl,_,rfl,?_⟩
      refine a8 ?_
      refine ⟨_,rfl,.inl ⟨rfl,_,az.of hL6⟩,_,rfl,L,_,_,rfl,rfl,hL6,?_,_,_,_,acc ++ [n],rfl,fun c o e ne => by rw [ag ne]; exact kp6 c o e ne,?_,?_,?_⟩
      ·have hil:=(List.getElem?_eq_some_iff.mp hkk).1
       rw [List.length_map,sizeLine_eq]
       omega
      ·rw [af,List.map_append]
       rfl
      ·rw [List.length_append,List.length_singleton]
       omega
      ·rw [era]
       cases readAll ((ks.zip ps.tail).drop (i + 1)) with
       | none => rfl
       | some ns =>
         show some (acc ++ n :: ns) = some ((acc ++ [n]) ++ ns)
         rw [List.append_assoc]
         rfl
  ·rintro i σ H4 hend hi1 hi2 ⟨u,v,t,acc,rfl,kp,hLL,hal,era⟩
   rw [List.length_map,List.length_map] at hi1
   rw [List.length_map] at hi2
   rw [List.length_map,List.length_map,List.length_map] at hend
   have e0 : (ks.zip ps.tail).drop i = []:=List.drop_eq_nil_of_le (by
    rw [List.length_zip,List.length_tail,← pc.1]
    rw [List.length_tail] at hend hi2
    omega)
   rw [e0] at era
   have era' : readAll (ks.zip ps.tail) = some acc:=by
    rw [era]
    show some (acc ++ []) = some acc
    rw [List.append_nil]
   have kf:=k H4 (done _ kp)
   rw [era'] at kf
   exact ⟨_,rfl,kf L hLL⟩
end
end Sh
end
section
namespace Sh
open PySem PySem.Spec PyProof.Rows L2 TL
open Vbahap (State Truth View Flight Msg Bytes decimal pieces)
section
variable {P : Program} {w : World} {K : PySem.W.Frag} {mg : Str → Option Value} {base : Heap} {A : Ad}
theorem Kc : ∀ (b : Bytes) (pc : Bytes),pc ∈ pieces b → pc.length ≤ b.length
 | [],pc,h => by
   have : pc = []:=by simpa [pieces] using h
   rw [this]
   exact Nat.le_refl _
 | c :: r,pc,h => by
   have ih:=Kc r
   cases q : pieces r with
   | nil => exact absurd q (lY r)
   | cons p l =>
     have e : pieces (c :: r) = if c = 32 then [] :: p :: l else (c :: p) :: l:=by
      show (match pieces r with | [] => [[c]] | p :: l => if c = 32 then [] :: p :: l else (c :: p) :: l) = _
      rw [q]
     rw [e] at h
     rw [q] at ih
     rw [List.length_cons]
     split at h
     ·rcases List.mem_cons.mp h with z | z
      ·rw [z]; exact Nat.zero_le _
      ·have:=ih pc z
       omega
     ·rcases List.mem_cons.mp h with z | z
      ·have:=ih p List.mem_cons_self
       rw [z,List.length_cons]
       omega
      ·have:=ih pc (List.mem_cons_of_mem _ z)
       omega
theorem acW {i : Nat} {l : List Str} (h : eU[i]? = some l) : ∃ hd bt ks,l = hd :: ks.map dg ∧ cP[i]? = some (bt,ks) ∧ cQ hd = zs bt ∧ hd.cps.size ≤ 100000 ∧ ks.length ≤ 4 ∧ ∀ k ∈ ks,k ≤ 5:=by
 have hi : i < 4:=(List.getElem?_eq_some_iff.mp h).1
 have : i = 0 ∨ i = 1 ∨ i = 2 ∨ i = 3:=by omega
 rcases this with rfl | rfl | rfl | rfl
 ·have e : (["ASK","r","no","flight","seats"] : List Str) = l:=Option.some.inj h
  exact ⟨"ASK",Vbahap.ASK,[0,1,2,3],e ▸ rfl,rfl,by decide +kernel,by decide +kernel,by decide,by decide⟩
 ·have e : (["CAN","r","no"] : List Str) = l:=Option.some.inj h
  exact ⟨"CAN",Vbahap.CAN,[0,1],e ▸ rfl,rfl,by decide +kernel,by decide +kernel,by decide,by decide⟩
 ·have e : (["ST","r","no","version","letter"] : List Str) = l:=Option.some.inj h
  exact ⟨"ST",Vbahap.ST_,[0,1,4,5],e ▸ rfl,rfl,by decide +kernel,by decide +kernel,by decide,by decide⟩
 ·have e : (["ACK","r","no","version"] : List Str) = l:=Option.some.inj h
  exact ⟨"ACK",Vbahap.ACK,[0,1,4],e ▸ rfl,rfl,by decide +kernel,by decide +kernel,by decide,by decide⟩
theorem W8 (ps : List Bytes) (k : Nat) (h : Bytes) (ks : List Nat) (l : List (Bytes × List Nat)) : c6 ps k ((h,ks) :: l) = if ps.head? = some h ∧ ks.length + 1 = ps.length then (readAll (ks.zip ps.tail)).map (k :: ·) else c6 ps (k + 1) l:=by rw [c6]
theorem SS {a b : Nat} : decide (V.int (a : Int) = V.int (b : Int)) = decide (a = b):=ie
def Uo (_ : Ad) : Sp:=fun vs H Q _ => ∃ (p : Addr) (b : Bytes),vs = [.ref p] ∧ H p = some (.lst ((zs b).map V.int)) ∧ b.length ≤ 1000 ∧
 ∀ H',ao H H' → match (Vbahap.readMsg b).map Vbahap.numbersOf with | none => Q .aC H' | some ns => ns.length ≤ 1000 → ∀ c,H' c = some (.lst (ns.map l5)) → Q (.ref c) H'
theorem IJ : ∀ (l : List (Nat × Bytes)) {ns : List Nat},readAll l = some ns → ns.length = l.length
 | [],ns,h => by
   have : [] = ns:=Option.some.inj h
   rw [← this]
   rfl
 | (k,b) :: l,ns,h => by
   rw [IK] at h
   cases q : fm k b with
   | none => rw [q] at h; cases h
   | some n =>
     rw [q] at h
     cases q2 : readAll l with
     | none => rw [q2] at h; cases h
     | some ms =>
       rw [q2] at h
       have e : n :: ms = ns:=Option.some.inj h
       rw [← e,List.length_cons,List.length_cons,IJ l q2]
theorem XY (T : Txt w.params K mg A) : aE P w K mg base aQ 4 A.jV A.qJ ["text"] (Uo A):=by
 have nd:=He.nd
 have lM:=pX (P:=P) (w:=w) (base:=base) T
 have ae5:=X2 (P:=P) (w:=w) (base:=base) T
 have ae2:=XZ (P:=P) (w:=w) (base:=base) T
 refine T.sU.ok He (fun vs H Q E h => ?_) (fun cdv AA outer s H vs Q E hr h => ?_)
 ·obtain ⟨p,b,rfl,hp,hb,k⟩:=h
  rfl
 ·obtain ⟨p,b,rfl,hp,hb,k⟩:=h
  have lB : aq 1 _:=hr.mono (by decide)
  have abR : aq 1 _:=hr.mono (by decide)
  have abO : aq 3 _:=hr.mono (by decide)
  have hu:=aZ hr
  have hu64:=hr.units
  refine ⟨_,(au (bI (i:=1) nd rfl (Or.inl rfl) (cw ae5 abR rfl T.Nc T.sY.kp T.ad0 .nil aB (aa (pv 0) ae)))
   (au (dz PassesOwn.never rfl (Ke rfl T.we (aa (fv (v:=V.ref A.dv) rfl T.dv rfl) ae)) (k8 rfl (dW (ck (i:=2) nd rfl (Or.inl rfl)) (dW (ck (i:=3) nd rfl (Or.inl rfl)) k7)))
    (ah (bo (PW.pt (mZ (bz (vO hu64) (cw lM lB rfl T.nV T.lO.kp T.sE .nil aB (aa (a6 cb (pv 3) ay (fun _ _ => rfl)) ae)) (a6 bV (pv 1) ay (fun _ _ => rfl)) (bp _)) (mY (bz eA (dB fZ (by rfl) T.dX PySem.boot_len (aa (pv 3) ae)) (dB fZ (by rfl) T.dX PySem.boot_len (aa (pv 1) ae)) (bp _))))) (au (bI (i:=4) nd rfl (Or.inl rfl) (cw ae2 abO rfl T.M9 T.sV.kp T.adX .nil aB (aa (pv 3) (aa (pv 1) ae))))
   (ah (aT (lZ (bz gu (pv 4) dA (bp _)) dA (cW vP (bA (aa (pv 2) ae)) (pv 4)))))) bH)))
   (ah (aT dA)))),?_⟩
  rw [W7] at k
  refine ⟨_,rfl,p,b,rfl,hp,hb,fun H1 q as s1 hq pc => ?_⟩
  obtain ⟨xs,hx,hxl,hxi⟩:=T.cP
  have plen : ∀ pc ∈ pieces b,pc.length ≤ 1000:=fun pc hpc => Nat.le_trans (Kc b pc hpc) hb
  have pne:=lY b
  generalize pieces b = ps at pc plen pne k
  obtain ⟨p0,pr,rfl⟩ : ∃ p0 pr,ps = p0 :: pr:=by
   cases ps with
   | nil => exact absurd rfl pne
   | cons a l => exact ⟨a,l,rfl⟩
  obtain ⟨a0,ar,rfl⟩ : ∃ a0 ar,as = a0 :: ar:=by
   cases as with
   | nil => exact absurd pc.1 (by simp)
   | cons a l => exact ⟨a,l,rfl⟩
  refine ⟨A.dv,_,rfl,hx _,Nq (K:=K) (a:=A.dv) (xs:=xs) (fun i σ H4 => ∃ (u v t : Option V),σ = [some (.ref p),some (.ref q),u,v,t] ∧ ao H1 H4 ∧ c6 (p0 :: pr) 0 cP = c6 (p0 :: pr) i (cP.drop i)) ?_ ?_ ?_ ?_⟩
  ·exact ⟨none,none,none,rfl,ao.refl _,rfl⟩
  ·rintro i σ H4 _
   exact hx _
  ·rintro i x T0 σ H4 hi hT0 ⟨u,v,t,rfl,s4,er⟩
   have hi4 : i < 4:=by rw [← hxl]; exact (List.getElem?_eq_some_iff.mp hi).1
   obtain ⟨l,hl⟩ : ∃ l,eU[i]? = some l:=⟨_,List.getElem?_eq_getElem (by exact hi4)⟩
   obtain ⟨fa,hfa,hfs⟩:=hxi i l hl
   rw [hi] at hfa
   cases hfa
   obtain ⟨hd,bt,ks,rfl,hf,ec,hsz,hk4,hk5⟩:=acW hl
   have hfl:=(List.getElem?_eq_some_iff.mp hf).1
   have ed : cP.drop i = (bt,ks) :: cP.drop (i + 1):=by
    rw [List.drop_eq_getElem_cons hfl,(List.getElem?_eq_some_iff.mp hf).2]
   rw [ed,W8] at er
   have hTT : upd H4 T0 (.tup [V.int (i : Nat),V.ref fa]) T0 = some (.tup [V.int (i : Nat),V.ref fa]):=af
   have s5 : ao H1 (upd H4 T0 (.tup [V.int (i : Nat),V.ref fa])):=s4.trans (aU hT0)
   generalize upd H4 T0 (.tup [V.int (i : Nat),V.ref fa]) = H5 at hTT s5 ⊢
   refine ⟨T0,_,rfl,a4.of hTT,rfl,_,_,rfl,_,_,rfl,rfl,?_⟩
   refine ⟨_,rfl,fa,_,_,_,rfl,rfl,hfs _,dw,_,rfl,hsz,fun d hd' => ?_⟩
   have s6 : ao H1 (upd H5 d (.lst ((cQ hd).map V.int))):=s5.trans (aU hd')
   have hdd : upd H5 d (.lst ((cQ hd).map V.int)) d = some (.lst ((cQ hd).map V.int)):=af
   generalize upd H5 d (.lst ((cQ hd).map V.int)) = H6 at s6 hdd ⊢
   have pc6:=pc.same s6
   have h0 : H6 a0 = some (.lst ((zs p0).map V.int)):=pc6.2 0 a0 p0 rfl rfl
   refine ⟨_,rfl,q,_,_,V.ref a0,rfl,rfl,az.of (s6 _ _ hq),dw,Bi (K:=K) (xs:=cQ hd) (ys:=zs p0) (az.of hdd) (az.of h0) ?_⟩
   refine ⟨_,rfl,?_⟩
   have next : ¬ ((p0 :: pr).head? = some bt ∧ ks.length + 1 = (p0 :: pr).length) → ∃ (u' v' t' : Option V),[some (V.ref p),some (V.ref q),some (V.int (i : Nat)),some (V.ref fa),t] = [some (.ref p),some (.ref q),u',v',t'] ∧ ao H1 H6 ∧ c6 (p0 :: pr) 0 cP = c6 (p0 :: pr) (i + 1) (cP.drop (i + 1)):=fun c => by
    rw [if_neg c] at er
    exact ⟨_,_,_,rfl,s6,er⟩
   by_cases c1 : cQ hd = zs p0
   ·rw [decide_eq_true c1]
    refine bc ?_
    have eb : bt = p0:=FR (ec.symm.trans c1)
    refine ⟨_,rfl,fa,_,rfl,.inr (hfs _),_,rfl,q,_,rfl,.inl (az.of (s6 _ _ hq)),rfl,_,rfl,?_⟩
    rw [SS,List.length_map,List.length_map,List.length_cons,List.length_map,pc.1]
    by_cases c2 : ks.length + 1 = (p0 :: pr).length
    ·rw [decide_eq_true c2]
     rw [if_pos ⟨by rw [eb]; rfl,c2⟩] at er
     refine bc ?_
     refine ⟨_,rfl,_,rfl,fa,q,hd,ks,a0 :: ar,p0 :: pr,rfl,hfs,hk5,hk4,s6 _ _ hq,pc6,plen,by simp,fun H7 s7 => ?_⟩
     have sA : ao H H7:=s1.trans (s6.trans s7)
     cases era : readAll (ks.zip (p0 :: pr).tail) with
     | none =>
       refine ⟨_,rfl,rfl,_,rfl,bc ?_⟩
       have kf:=k H7 sA
       rw [er,era] at kf
       exact kf
     | some ns =>
       intro nb hnb
       refine ⟨_,rfl,rfl,_,rfl,a8 ?_⟩
       have hnl : ns.length ≤ 4:=by
        rw [IJ _ era,List.length_zip]
        omega
       refine ⟨_,rfl,(by show 1 ≤ sizeLine; decide),fun z hz => ?_⟩
       have nz : nb ≠ z:=bj hnb hz
       refine ⟨_,rfl,z,nb,_,_,rfl,rfl,af,by rw [ag nz]; exact hnb,?_,fun y hy => ?_⟩
       ·rw [List.length_map,sizeLine_eq]
        show 1 + ns.length ≤ _
        omega
       ·have kf:=k _ (sA.trans ((aU hz).trans (aU (o:=.lst ([V.int (i : Nat)] ++ ns.map l5)) hy)))
        rw [er,era] at kf
        refine kf ?_ y ?_
        ·show (i :: ns).length ≤ 1000
         rw [List.length_cons]
         omega
        ·rw [af]
         rfl
    ·rw [decide_eq_false c2]
     refine a8 ?_
     exact next fun z => c2 z.2
   ·rw [decide_eq_false c1]
    refine a8 ?_
    refine a8 ?_
    exact next fun z => c1 (by rw [ec,Option.some.inj z.1])
  ·rintro σ H4 ⟨u,v,t,rfl,s4,er⟩
   have kf:=k H4 (s1.trans s4)
   rw [er,hxl] at kf
   exact kf
end
end Sh
end
section
namespace Sh
open PySem PySem.Spec PyProof.Rows L2 TL
open Vbahap (State Truth View Flight Msg Bytes decimal pieces)
section
variable {P : Program} {w : World} {K : PySem.W.Frag} {mg : Str → Option Value} {base : Heap} {A : Ad}
theorem aa1 {s : State} (g : Good s) {m : Msg} (hm : cX s m) : sQ m:=by
 have hv : ∀ r no,dy s r no → r < 10 ^ 9 ∧ no < 10 ^ 9:=fun r no ⟨v,hv,e1,e2⟩ => by
  have h1:=(g.vo v hv).r
  have h2:=(g.vo v hv).no
  omega
 have ht : ∀ r no v,cY s r no v → r < 10 ^ 9 ∧ no < 10 ^ 9 ∧ v < 10 ^ 9:=fun r no v ⟨t,ht,e1,e2,e3⟩ => by
  have h0:=hv _ _ (g.tv t ht)
  have h1:=(g.to t ht).oN
  omega
 cases m with
 | ask r no f n =>
   obtain ⟨h1,⟨_,h2⟩,_,h3⟩:=hm
   obtain ⟨a,b⟩:=hv _ _ h1
   exact ⟨a,b,by omega,by omega⟩
 | can r no => exact hv _ _ hm
 | st r no v s =>
   obtain ⟨a,b,c⟩:=ht _ _ _ hm.1
   exact ⟨a,b,c,hm.2⟩
 | ack r no v => exact ht _ _ _ hm
def Uz (A : Ad) : Sp:=cU A 15
theorem Ks (T : Txt w.params K mg A) : aE P w K mg base aQ 3 A.fH A.qU ["houses","numbers"] (Uz A):=by
 have nd:=Hq.nd
 have kl:=nA (P:=P) (w:=w) (base:=base) T
 have aeY:=XU (P:=P) (w:=w) (base:=base) T
 refine T.tq.ok Hq (fun vs H Q E h => ?_) (fun cdv AA outer s H vs Q E hr h => ?_)
 ·obtain ⟨W,l,p,rfl,R,g,hp,hf,hin,hl,_,k⟩:=h
  rfl
 ·obtain ⟨W,l,p,rfl,R,g,hp,hf,hin,hl,_,k⟩:=h
  have jM : aq 1 _:=hr.mono (by decide)
  have abK : aq 2 _:=hr.mono (by decide)
  have hu:=aZ hr
  refine ⟨_,(au (bo (gp (de (bh (ai (pv 0) rfl) T.bW T.mn kl jM T.oq .nil aB (aa (a6 bV (pv 1) ay (fun _ _ => rfl)) ae)))) (ah (aT (bA (aa (bg T.kR) ae)))) bH)
   (ah (aT (cW vP (bA (aa ay ae)) (cw aeY abK rfl T.M5 T.sR.kp T.adT .nil aB (aa (a6 bV (ai (ai (pv 0) rfl) rfl) (a6 bV (pv 1) ay (fun _ _ => rfl)) (fun _ _ => rfl)) ae)))))),?_⟩
  obtain ⟨i,rfl⟩:=lF hf hin (by decide) rfl
  obtain ⟨dh,hH⟩:=R.hs
  obtain ⟨dn,hN⟩:=R.net
  have hq:=eB (K:=K) hp
  have es : Vbahap.step W.st (cG 15 [(i : Int)]) = match W.st.net[i]? with | none => (W.st,[-4]) | some m => (W.st,0 :: Vbahap.ints (Vbahap.textOf m)):=rfl
  rw [es] at k
  refine ⟨_,rfl,W.aH,A.aD,dh,_,_,rfl,hH,T.br,T.cA,cO _ _ _,W.aN,dn,_,rfl,hN,dY _ _ (by decide +kernel),_,rfl,p,_,_,_,rfl,rfl,hq,cK,W,i,rfl,R,_,rfl,?_⟩
  cases hm : W.st.net[i]? with
  | none =>
    rw [hm] at k
    rw [decide_eq_false (p5 hm)]
    refine bc ?_
    refine ⟨(by show 1 ≤ sizeLine; decide),fun b hb => ?_⟩
    exact (aA.refl R).fin hb k rfl rfl
  | some m =>
    rw [hm] at k
    obtain ⟨a,ha⟩:=p6 hm
    have hlt : i < W.ms.length:=(List.getElem?_eq_some_iff.mp ha).1
    rw [decide_eq_true hlt]
    refine a8 ?_
    have mok:=g.ms m (List.mem_of_getElem? hm)
    have hat : cS (bO W.ms) ((i : Nat) : Int) = some (V.ref a):=ef (by unfold bO; rw [List.getElem?_map,ha]; rfl)
    refine ⟨(by show 1 ≤ sizeLine; decide),fun z hz => ?_⟩
    have sz : ao H (upd H z (.lst [V.int 0])):=aU hz
    have hzz : upd H z (.lst [V.int 0]) z = some (.lst [V.int 0]):=af
    generalize upd H z (.lst [V.int 0]) = H1 at sz hzz ⊢
    refine ⟨_,rfl,W.aH,A.aD,dh,_,_,rfl,sz _ _ hH,T.br,T.cA,cO _ _ _,W.aN,A.a5,dn,_,_,rfl,sz _ _ hN,T.bW,T.fz,kG _ _,_,rfl,p,_,_,_,rfl,rfl,ao.seq sz hq,cK,W.aM,_,_,V.ref a,rfl,rfl,az.of (sz _ _ R.msg),hat,?_⟩
    refine ⟨a,m,rfl,sz _ _ (R.dC _ (List.mem_of_getElem? ha)),aa1 g mok,fun H2 b s2 hb hb0 => ?_⟩
    have tlen:=K8 g mok
    refine ⟨z,b,_,_,rfl,rfl,s2 _ _ hzz,hb,?_,fun y hy => ?_⟩
    ·unfold Vbahap.ints
     rw [List.length_map,List.length_map,sizeLine_eq]
     show 1 + _ ≤ _
     omega
    ·exact ((aA.refl R).same (sz.trans s2)).fin hy k rfl rfl
def UE (A : Ad) : Sp:=cU A 16
theorem Kx (T : Txt w.params K mg A) : aE P w K mg base aQ 5 A.fM A.qZ ["houses","numbers"] (UE A):=by
 have nd:=Hv.nd
 have ae1:=XY (P:=P) (w:=w) (base:=base) T
 refine T.tF.ok Hv (fun vs H Q E h => ?_) (fun cdv AA outer s H vs Q E hr h => ?_)
 ·obtain ⟨W,l,p,rfl,R,g,hp,hf,hin,hl,_,k⟩:=h
  rfl
 ·obtain ⟨W,l,p,rfl,R,g,hp,hf,hin,hl,_,k⟩:=h
  have abN : aq 4 _:=hr.mono (by decide)
  have hu:=aZ hr
  refine ⟨_,(au (bI (i:=2) nd rfl (Or.inl rfl) (cw ae1 abN rfl T.M8 T.sU.kp T.adW .nil aB (aa (pv 1) ae)))
   (au (bo (bz gu (pv 2) dA (bp _)) (ah (aT (bA (aa (bg T.QI) ae)))) bH)
   (ah (aT (cW vP (bA (aa ay ae)) (pv 2)))))),?_⟩
  have es : Vbahap.step W.st (cG 16 l) = match Vbahap.readMsg (l.map Int.toNat) with | none => (W.st,[-8]) | some m => (W.st,0 :: Vbahap.ints (Vbahap.numbersOf m)):=rfl
  rw [es] at k
  have ht : Vbahap.isText l = true:=hin
  unfold Vbahap.isText at ht
  rw [Bool.and_eq_true,decide_eq_true_eq,List.all_eq_true] at ht
  have ez : zs (l.map Int.toNat) = l:=by
   unfold zs
   rw [List.map_map]
   refine (List.map_congr_left fun x hx => ?_).trans (List.map_id l)
   have:=ht.2 x hx
   unfold Vbahap.within at this
   have h0 : 0 ≤ x:=by simp at this; exact this.1
   exact Int.toNat_of_nonneg h0
  refine ⟨_,rfl,p,l.map Int.toNat,rfl,by rw [ez]; exact hp,by rw [List.length_map]; omega,fun H1 s1 => ?_⟩
  cases hm : Vbahap.readMsg (l.map Int.toNat) with
  | none =>
    rw [hm] at k
    refine ⟨_,rfl,rfl,_,rfl,bc ?_⟩
    refine ⟨(by show 1 ≤ sizeLine; decide),fun b hb => ?_⟩
    exact ((aA.refl R).same s1).fin hb k rfl rfl
  | some m =>
    rw [hm] at k
    intro hlen c hc
    refine ⟨_,rfl,rfl,_,rfl,a8 ?_⟩
    refine ⟨(by show 1 ≤ sizeLine; decide),fun z hz => ?_⟩
    have nz : c ≠ z:=bj hc hz
    refine ⟨_,rfl,z,c,_,_,rfl,rfl,af,by rw [ag nz]; exact hc,?_,fun y hy => ?_⟩
    ·rw [List.length_map,sizeLine_eq]
     show 1 + _ ≤ _
     omega
    ·refine ((aA.refl R).same (s1.trans (aU hz))).fin hy k rfl ?_
     unfold Vbahap.ints
     rw [List.map_cons,List.map_map]
     rfl
end
end Sh
end
section
namespace Sh
open PySem PySem.Spec PyProof.Rows L2 TL
open Vbahap (State Truth View Flight Msg Bytes decimal pieces)
section
variable {P : Program} {w : World} {K : PySem.W.Frag} {mg : Str → Option Value} {base : Heap} {A : Ad}
theorem Th {v : V} {a b : Int} (h : cB K 1 v (.t [.i a,.i b])) : ∃ p,v = .ref p ∧ ∀ H,a4 K H p [.int a,.int b]:=by
 unfold cB at h
 obtain ⟨p,xs,e,sq,hl,tt⟩:=h
 refine ⟨p,e,?_⟩
 match xs,hl with
 | [x,y],_ =>
   have h0:=tt 0 x (.i a) rfl rfl
   have h1:=tt 1 y (.i b) rfl rfl
   unfold cB at h0 h1
   rw [← h0,← h1]
   exact sq
theorem Txt.IL {Pa : Params} (T : Txt Pa K mg A) : ∃ xs,(∀ H,a4 K H A.dD xs) ∧ ∀ q,q < 18 → ∃ ra ys,xs[q]? = some (.ref ra) ∧ (∀ H,a4 K H ra ys) ∧ ys.length = (eu.getD q []).length ∧
 ∀ (i : Nat) (p : Int × Int),(eu.getD q [])[i]? = some p → ∃ b,ys[i]? = some (.ref b) ∧ ∀ H,a4 K H b [.int p.1,.int p.2]:=by
 have h:=T.mM
 rw [show Bv = TD.t (eu.map fun l => TD.t (l.map fun p => TD.t [TD.i p.1,TD.i p.2])) from rfl] at h
 unfold cB at h
 obtain ⟨a,xs,e,sq,hl,tt⟩:=h
 cases e
 refine ⟨xs,sq,fun q hq => ?_⟩
 rw [List.length_map] at hl
 have hq1 : q < eu.length:=hq
 have hg : eu[q]? = some (eu.getD q []):=by
  rw [List.getD_eq_getElem?_getD,List.getElem?_eq_getElem hq1]
  rfl
 have hx : xs[q]? = some (xs[q]'(by omega)):=List.getElem?_eq_getElem _
 have h2:=tt q _ (TD.t ((eu.getD q []).map fun p => TD.t [TD.i p.1,TD.i p.2])) hx (by rw [List.getElem?_map,hg]; rfl)
 unfold cB at h2
 obtain ⟨ra,ys,e2,sq2,hl2,tt2⟩:=h2
 rw [List.length_map] at hl2
 refine ⟨ra,ys,by rw [hx,e2],sq2,hl2,fun i p hp => ?_⟩
 have hi : i < (eu.getD q []).length:=(List.getElem?_eq_some_iff.mp hp).1
 have hy : ys[i]? = some (ys[i]'(by omega)):=List.getElem?_eq_getElem _
 have h3:=tt2 i _ (TD.t [TD.i p.1,TD.i p.2]) hy (by rw [List.getElem?_map,hp]; rfl)
 obtain ⟨b,e3,sb⟩:=Th h3
 exact ⟨b,by rw [hy,e3],sb⟩
theorem WX : ∀ q,q < 18 → kx[q]? = some (eu.getD q []).length:=by decide
structure SA (H0 H : Hp) (L t : Addr) (x : Nat × List Int) (la : Addr) : Prop where
 tup : H t = some (.tup [.int (x.1 : Nat),.ref la])
 lst : H la = some (.lst (x.2.map V.int))
 n1 : H0 t = none
 n2 : H0 la = none
 e1 : t ≠ L
 e2 : la ≠ L
def f7 (H0 H : Hp) (L : Addr) (ts : List Addr) (qs : List (Nat × List Int)) : Prop:=ts.length = qs.length ∧ ∀ (i : Nat) (t : Addr) (x : Nat × List Int),ts[i]? = some t → qs[i]? = some x → ∃ la,SA H0 H L t x la
theorem f7.same {H0 H H' : Hp} {L : Addr} {ts : List Addr} {qs : List (Nat × List Int)} (h : f7 H0 H L ts qs) (s : ao H H') : f7 H0 H' L ts qs:=⟨h.1,fun i t x e1 e2 => by
 obtain ⟨la,q⟩:=h.2 i t x e1 e2
 exact ⟨la,s _ _ q.tup,s _ _ q.lst,q.n1,q.n2,q.e1,q.e2⟩⟩
theorem f7.over {H0 H : Hp} {L : Addr} {o : HO} {ts : List Addr} {qs : List (Nat × List Int)} (h : f7 H0 H L ts qs) : f7 H0 (upd H L o) L ts qs:=⟨h.1,fun i t x e1 e2 => by
 obtain ⟨la,q⟩:=h.2 i t x e1 e2
 exact ⟨la,by rw [ag q.e1]; exact q.tup,by rw [ag q.e2]; exact q.lst,q.n1,q.n2,q.e1,q.e2⟩⟩
theorem f7.snoc {H0 H : Hp} {L t la : Addr} {x : Nat × List Int} {ts : List Addr} {qs : List (Nat × List Int)} (h : f7 H0 H L ts qs) (p : SA H0 H L t x la) : f7 H0 H L (ts ++ [t]) (qs ++ [x]):=by
 refine ⟨by rw [List.length_append,List.length_append,h.1]; rfl,fun i b y e1 e2 => ?_⟩
 by_cases c : i < ts.length
 ·rw [List.getElem?_append_left c] at e1
  rw [List.getElem?_append_left (by rw [← h.1]; exact c)] at e2
  exact h.2 i b y e1 e2
 ·rw [List.getElem?_append_right (by omega)] at e1
  rw [List.getElem?_append_right (by rw [← h.1]; omega)] at e2
  have l1:=(List.getElem?_eq_some_iff.mp e1).1
  rw [List.length_singleton] at l1
  have i0 : i - ts.length = 0:=by omega
  rw [i0] at e1
  rw [← h.1,i0] at e2
  cases e1
  cases e2
  exact ⟨la,p⟩
theorem O7 {ns : List Int} {lo hi : Nat} (h : lo ≤ hi) (hh : hi ≤ ns.length) : eW (ns.map V.int) (some (lo : Int)) (some (hi : Int)) = ((ns.drop lo).take (hi - lo)).map V.int:=by
 unfold eW
 rw [HT.o5,HT.o5,List.length_map,Nat.min_eq_left hh,Nat.min_eq_left (Nat.le_trans h hh),List.map_take,List.map_drop]
def Ul (K : PySem.W.Frag) (_ : Ad) : Sp:=fun vs H Q _ => ∃ (p : Addr) (ns : List Int) (f : Nat) (cs : List (List (List Int))),vs = [.ref p] ∧ az K H p (ns.map V.int) ∧ PyFlat.calls PyVbahap.shape f ns = some cs ∧ ns.length ≤ 100000 ∧
 ∀ (H' : Hp) (q : Addr) (ts : List Addr) (qs : List (Nat × List Int)),ao H H' → H q = none → H' q = some (.lst (ts.map V.ref)) → f7 H H' q ts qs → cs = qs.map (fun x => rowsOf x.1 x.2) → (∀ x ∈ qs,Fits x.1 x.2) → Q (.ref q) H'
theorem XX (T : Txt w.params K mg A) : aE P w K mg base aQ 1 A.jT A.qH ["calls"] (Ul K A):=by
 have nd:=Hc.nd
 refine T.sT.ok Hc (fun vs H Q E h => ?_) (fun cdv AA outer s H vs Q E hr h => ?_)
 ·obtain ⟨p,ns,f,cs,rfl,hp,hcs,hlen,k⟩:=h
  rfl
 ·obtain ⟨p,ns,f,cs,rfl,hp,hcs,hlen,k⟩:=h
  have hu:=aZ hr
  refine ⟨_,(au (bI (i:=1) nd rfl (Or.inl rfl) (bA ae))
   (au (bI (i:=2) nd rfl (Or.inl rfl) ay)
   (au (IQ PassesOwn.never (bz lg (pv 2) (dB fZ (by rfl) T.dX PySem.boot_len (aa (pv 0) ae)) (bp _)) (au (bI (i:=3) nd rfl (Or.inl rfl) (a6 bV (pv 0) (pv 2) (fun _ _ => rfl)))
   (au (bI (i:=4) nd rfl (Or.inl rfl) (cW jD (pv 2) ay))
   (au (bI (i:=5) nd rfl (Or.inl rfl) (dB fZ (by rfl) T.dX PySem.boot_len (aa (a6 cb (fv (v:=V.ref A.dD) rfl T.dD rfl) (pv 3) (fun _ _ => rfl)) ae)))
   (au (bo (bz eA (pv 3) (bg T.C0) (bp _)) (au (bI (i:=5) nd rfl (Or.inl rfl) (a6 bV (pv 0) (pv 4) (fun _ _ => rfl)))
   (ah (bI (i:=4) nd rfl (Or.inl rfl) (cW jD (pv 4) ay)))) bH)
   (au (bI (i:=2) nd rfl (Or.inl rfl) (cW jD (pv 4) (pv 5)))
   (ah (bB (gr PySem.F.plainAttrs_list PySem.F.slot_list_append PySem.F.type_list_append lr (pv 1) (aa (dJ (aa (pv 3) (aa (m7 G2 (pv 0) (lX (pv 4)) (lX (pv 2))) ae))) ae))))))))))
   (ah (aT (pv 1)))))),?_⟩
  obtain ⟨rs,hrs,hrq⟩:=T.IL
  refine ⟨Nat.zero_le _,fun L hL => ?_⟩
  have s1 : ao H (upd H L (.lst [])):=aU hL
  have hL1 : upd H L (.lst []) L = some (.lst (([] : List Addr).map V.ref)):=af
  generalize upd H L (.lst []) = H1 at s1 hL1 ⊢
  refine FU (fun σ H4 => ∃ (at_ : Nat) (v3 v4 v5 : Option V) (ts : List Addr) (qs : List (Nat × List Int)) (f' : Nat) (cs' : List (List (List Int))),σ = [some (.ref p),some (.ref L),some (.int (at_ : Nat)),v3,v4,v5] ∧ at_ ≤ ns.length ∧ ao H H4 ∧ H4 L = some (.lst (ts.map V.ref)) ∧ f7 H H4 L ts qs ∧ (∀ x ∈ qs,Fits x.1 x.2) ∧ PyFlat.calls PyVbahap.shape f' (ns.drop at_) = some cs' ∧ cs = qs.map (fun x => rowsOf x.1 x.2) ++ cs' ∧ ts.length ≤ at_)
   (fun (σ : L2.St) _ => match (σ[2]? : Option (Option V)) with | some (some (V.int d)) => (ns.length - d.toNat) | _ => 0) ⟨0,none,none,none,[],[],f,cs,rfl,Nat.zero_le _,s1,hL1,⟨rfl,fun i t x e => by simp at e⟩,by simp,hcs,rfl,Nat.le_refl _⟩ ?_ ?_
  ·rintro σ H4 ⟨at_,v3,v4,v5,ts,qs,f',cs',rfl,hat,s4,hL4,pa,hfit,hc,ecs,htl⟩
   refine ⟨_,rfl,_,rfl,p,_,rfl,.inl (ao.seq s4 hp),_,_,rfl,rfl,_,rfl,?_⟩
   rw [List.length_map]
   by_cases hlt : at_ < ns.length
   ·rw [decide_eq_true (by omega : ((at_ : Nat) : Int) < (ns.length : Int))]
    refine bc ?_
    have ed : ns.drop at_ = ns[at_] :: ns.drop (at_ + 1):=List.drop_eq_getElem_cons hlt
    rw [ed] at hc
    obtain ⟨q,l,t,cs'',f'',ez,cut,ecs',hc'⟩:=adD hc
    obtain ⟨ra,ys,hra,hrs2,hyl,_⟩:=hrq q cut.lt
    have hat1 : cS (ns.map V.int) ((at_ : Nat) : Int) = some (V.int (q : Nat)):=ef (by rw [List.getElem?_map,List.getElem?_eq_getElem hlt,ez]; rfl)
    refine ⟨_,rfl,_,rfl,p,_,_,_,rfl,rfl,ao.seq s4 hp,hat1,?_⟩
    refine ⟨_,rfl,_,_,rfl,rfl,?_⟩
    refine ⟨_,rfl,A.dD,_,_,_,rfl,rfl,hrs _,ef hra,ra,ys,rfl,.inr (hrs2 _),?_⟩
    refine ⟨_,rfl,rfl,_,rfl,?_⟩
    rw [show decide (V.int ((q : Nat) : Int) = V.int 16) = decide (q = 16) from ie (b:=16)]
    by_cases h16 : q = 16
    ·rw [decide_eq_true h16]
     refine bc ?_
     obtain ⟨n,r',er,hn,el,et⟩:=cut.text h16
     have hl1 : at_ + 1 < ns.length:=by
      have:=congrArg List.length er
      rw [List.length_drop,List.length_cons] at this
      omega
     have ed2 : ns.drop (at_ + 1) = ns[at_ + 1] :: ns.drop (at_ + 1 + 1):=List.drop_eq_getElem_cons hl1
     rw [ed2] at er
     obtain ⟨en,er'⟩:=List.cons.inj er
     have hat2 : cS (ns.map V.int) ((at_ : Nat) + 1 : Int) = some (V.int (n : Nat)):=ef (j:=at_ + 1) (by rw [List.getElem?_map,List.getElem?_eq_getElem hl1,en]; rfl)
     refine ⟨_,rfl,_,rfl,p,_,_,_,rfl,rfl,ao.seq s4 hp,hat2,?_⟩
     refine ⟨_,rfl,_,_,rfl,rfl,?_⟩
     refine ⟨_,rfl,_,rfl,_,_,rfl,rfl,?_⟩
     have hat' : at_ + 1 + 1 + n ≤ ns.length:=by
      have:=congrArg List.length er'
      rw [List.length_drop] at this
      omega
     have ecut : eW (ns.map V.int) (some ((at_ : Nat) + 1 + 1 : Int)) (some ((at_ : Nat) + 1 + 1 + (n : Nat) : Int)) = l.map V.int:=by
      have:=O7 (ns:=ns) (lo:=at_ + 1 + 1) (hi:=at_ + 1 + 1 + n) (by omega) hat'
      rw [Nat.add_sub_cancel_left,er',← el] at this
      exact this
     have edr : ns.drop (at_ + 1 + 1 + n) = t:=by rw [et,← er',List.drop_drop]
     refine ⟨_,rfl,.inl ⟨rfl,_,az.of hL4⟩,_,rfl,_,rfl,_,rfl,_,rfl,_,rfl,_,rfl,p,_,rfl,ao.seq s4 hp,fun la hla => ?_⟩
     dsimp only
     rw [ecut]
     have sA : ao H4 (upd H4 la (.lst (l.map V.int))):=aU hla
     have hla1 : upd H4 la (.lst (l.map V.int)) la = some (.lst (l.map V.int)):=af
     have nl1 : H la = none:=s4.free hla
     have nl2 : la ≠ L:=(bj hL4 hla).symm
     generalize upd H4 la (.lst (l.map V.int)) = H5 at sA hla1 ⊢
     refine ⟨(by show 2 ≤ sizeLine; decide),fun t0 ht0 => ?_⟩
     have sB : ao H5 (upd H5 t0 (.tup [V.int (q : Nat),V.ref la])):=aU ht0
     have ht1 : upd H5 t0 (.tup [V.int (q : Nat),V.ref la]) t0 = some (.tup [V.int (q : Nat),V.ref la]):=af
     have nt1 : H t0 = none:=s4.free (sA.free ht0)
     have nt2 : t0 ≠ L:=(bj (sA _ _ hL4) ht0).symm
     generalize upd H5 t0 (.tup [V.int (q : Nat),V.ref la]) = H6 at sB ht1 ⊢
     have s6 : ao H4 H6:=sA.trans sB
     refine ⟨L,_,_,rfl,rfl,s6 _ _ hL4,?_,⟨at_ + 1 + 1 + n,_,_,_,ts ++ [t0],qs ++ [(q,l)],f'',cs'',rfl,?_,lW (s4.trans s6) hL,?_,?_,?_,?_,?_,?_⟩,?_⟩
     ·rw [List.length_map,sizeLine_eq]
      omega
     ·exact hat'
     ·rw [af,List.map_append]
      rfl
     ·exact ((pa.same s6).snoc ⟨ht1,sB _ _ hla1,nt1,nl1,nt2,nl2⟩).over
     ·intro x hx
      rcases List.mem_append.mp hx with z | z
      ·exact hfit x z
      ·rw [List.mem_singleton.mp z]
       exact cut.fits
     ·rw [edr]
      exact hc'
     ·rw [ecs,ecs',List.map_append,List.append_assoc]
      rfl
     ·rw [List.length_append,List.length_singleton]
      omega
     ·show ns.length - ((at_ + 1 + 1 + n : Nat) : Int).toNat < ns.length - ((at_ : Nat) : Int).toNat
      rw [Int.toNat_natCast,Int.toNat_natCast]
      omega
    ·rw [decide_eq_false h16]
     refine a8 ?_
     obtain ⟨n,hn,hnr,el,et⟩:=cut.plain h16
     have eyn : ys.length = n:=by
      rw [hyl]
      exact Option.some.inj ((WX q cut.lt).symm.trans hn)
     rw [eyn]
     refine ⟨_,rfl,_,rfl,_,_,rfl,rfl,?_⟩
     have hat' : at_ + 1 + n ≤ ns.length:=by
      rw [List.length_drop] at hnr
      omega
     have ecut : eW (ns.map V.int) (some ((at_ : Nat) + 1 : Int)) (some ((at_ : Nat) + 1 + (n : Nat) : Int)) = l.map V.int:=by
      have:=O7 (ns:=ns) (lo:=at_ + 1) (hi:=at_ + 1 + n) (by omega) hat'
      rw [Nat.add_sub_cancel_left,← el] at this
      exact this
     have edr : ns.drop (at_ + 1 + n) = t:=by rw [et,List.drop_drop]
     refine ⟨_,rfl,.inl ⟨rfl,_,az.of hL4⟩,_,rfl,_,rfl,_,rfl,_,rfl,_,rfl,_,rfl,p,_,rfl,ao.seq s4 hp,fun la hla => ?_⟩
     dsimp only
     rw [ecut]
     have sA : ao H4 (upd H4 la (.lst (l.map V.int))):=aU hla
     have hla1 : upd H4 la (.lst (l.map V.int)) la = some (.lst (l.map V.int)):=af
     have nl1 : H la = none:=s4.free hla
     have nl2 : la ≠ L:=(bj hL4 hla).symm
     generalize upd H4 la (.lst (l.map V.int)) = H5 at sA hla1 ⊢
     refine ⟨(by show 2 ≤ sizeLine; decide),fun t0 ht0 => ?_⟩
     have sB : ao H5 (upd H5 t0 (.tup [V.int (q : Nat),V.ref la])):=aU ht0
     have ht1 : upd H5 t0 (.tup [V.int (q : Nat),V.ref la]) t0 = some (.tup [V.int (q : Nat),V.ref la]):=af
     have nt1 : H t0 = none:=s4.free (sA.free ht0)
     have nt2 : t0 ≠ L:=(bj (sA _ _ hL4) ht0).symm
     generalize upd H5 t0 (.tup [V.int (q : Nat),V.ref la]) = H6 at sB ht1 ⊢
     have s6 : ao H4 H6:=sA.trans sB
     refine ⟨L,_,_,rfl,rfl,s6 _ _ hL4,?_,⟨at_ + 1 + n,_,_,_,ts ++ [t0],qs ++ [(q,l)],f'',cs'',rfl,?_,lW (s4.trans s6) hL,?_,?_,?_,?_,?_,?_⟩,?_⟩
     ·rw [List.length_map,sizeLine_eq]
      omega
     ·exact hat'
     ·rw [af,List.map_append]
      rfl
     ·exact ((pa.same s6).snoc ⟨ht1,sB _ _ hla1,nt1,nl1,nt2,nl2⟩).over
     ·intro x hx
      rcases List.mem_append.mp hx with z | z
      ·exact hfit x z
      ·rw [List.mem_singleton.mp z]
       exact cut.fits
     ·rw [edr]
      exact hc'
     ·rw [ecs,ecs',List.map_append,List.append_assoc]
      rfl
     ·rw [List.length_append,List.length_singleton]
      omega
     ·show ns.length - ((at_ + 1 + n : Nat) : Int).toNat < ns.length - ((at_ : Nat) : Int).toNat
      rw [Int.toNat_natCast,Int.toNat_natCast]
      omega
   ·rw [decide_eq_false (by omega : ¬ ((at_ : Nat) : Int) < (ns.length : Int))]
    refine a8 ?_
    have e0 : ns.drop at_ = []:=List.drop_eq_nil_of_le (by omega)
    rw [e0] at hc
    rw [adB hc,List.append_nil] at ecs
    exact ⟨_,rfl,k H4 L ts qs s4 hL hL4 pa ecs hfit⟩
  ·rintro σ H Q Q' h ⟨v2,e2,v0,e0,p0,ys,e3,sq,i,j,e4,e5,c,e6,q⟩
   exact ⟨v2,e2,v0,e0,p0,ys,e3,sq,i,j,e4,e5,c,e6,h _ _ q⟩
end
end Sh
end
section
namespace Sh
open PySem PySem.Spec PyProof.Rows L2 TL
open Vbahap (State Truth View Flight Msg Bytes decimal pieces)
section
variable {P : Program} {w : World} {K : PySem.W.Frag} {mg : Str → Option Value} {base : Heap} {A : Ad}
def Ut (_ : Ad) : Sp:=fun vs H Q _ => ∃ (p : Addr) (l : List Int),vs = [.ref p] ∧ H p = some (.lst (l.map V.int)) ∧ ∀ H',ao H H' → Q (.bl (Vbahap.isText l)) H'
theorem X3 (T : Txt w.params K mg A) : aE P w K mg base aQ 1 A.j0 A.qO ["numbers"] (Ut A):=by
 have nd:=Hj.nd
 refine T.sZ.ok Hj (fun vs H Q E h => ?_) (fun cdv AA outer s H vs Q E hr h => ?_)
 ·obtain ⟨p,l,rfl,hp,k⟩:=h
  rfl
 ·obtain ⟨p,l,rfl,hp,k⟩:=h
  have hu:=aZ hr
  refine ⟨_,(au (bo (bz nu (dB fZ (by rfl) T.dX PySem.boot_len (aa (pv 0) ae)) (bg T.QM) (bp _)) (ah (aT jC)) bH)
   (ah (aT (dB (adu rfl) (by rfl) T.K5 adM (aa (m9 (own:=[("number",1)]) rfl nd (fu (pv 0)) (oh (N:=["numbers","number"]) (sc:=ab gh) (by decide +kernel)) (fun _ _ _ _ _ => ck (i:=1) nd rfl (Or.inl rfl)) (fun _ _ _ _ _ => uA) (fun _ _ _ _ _ => (Kj (pf pV (pv 1) ay (bp _)) (uT (pf pU (pv 1) (bg T.QN) (bp _)))))) ae))))),?_⟩
  refine ⟨_,rfl,p,_,rfl,.inl (az.of hp),_,_,rfl,rfl,_,rfl,?_⟩
  rw [List.length_map]
  by_cases hl : l.length ≤ 100
  ·rw [decide_eq_false (by omega : ¬ (100 : Int) < (l.length : Int))]
   refine a8 ?_
   refine ⟨_,rfl,p,rfl,⟨_,az.of hp⟩,fun D hD => ?_⟩
   have nD : p ≠ D:=bj hp hD
   refine LA (K:=K) (a:=p) (xs:=l.map V.int) (fun i H' => H' = upd H D (.lst (((l.take i).map fun z => Vbahap.within z 0 255).map V.bl))) rfl (fun i H' _ e => ?_) (fun i x H' hi e => ?_) (fun H' e => ?_)
   ·subst e
    exact az.of (by rw [ag nD]; exact hp)
   ·subst e
    obtain ⟨z,hz,rfl⟩:=dk hi
    have hlt:=(List.getElem?_eq_some_iff.mp hz).1
    refine ⟨rfl,?_⟩
    have fin : ∀ b : Bool,b = Vbahap.within z 0 255 → ∃ acc,upd H D (.lst (((l.take i).map fun z => Vbahap.within z 0 255).map V.bl)) D = some (.lst acc) ∧ acc.length < sizeLine ∧ upd (upd H D (.lst (((l.take i).map fun z => Vbahap.within z 0 255).map V.bl))) D (.lst (acc ++ [V.bl b])) = upd H D (.lst (((l.take (i + 1)).map fun z => Vbahap.within z 0 255).map V.bl)):=fun b eb => by
     refine ⟨_,af,?_,?_⟩
     ·rw [List.length_map,List.length_map,List.length_take,sizeLine_eq]
      omega
     ·rw [cZ,take_snoc hz,eb,List.map_append,List.map_append]
      rfl
    refine ⟨_,rfl,_,_,rfl,rfl,_,rfl,?_⟩
    by_cases c : (0 : Int) ≤ z
    ·rw [decide_eq_true c]
     refine bc ?_
     refine ⟨_,rfl,_,_,rfl,rfl,?_⟩
     refine fin _ ?_
     unfold Vbahap.within
     rw [decide_eq_true c]
     rfl
    ·rw [decide_eq_false c]
     refine a8 ?_
     refine fin _ ?_
     unfold Vbahap.within
     rw [decide_eq_false c]
     rfl
   ·subst e
    rw [List.length_map,List.take_length]
    refine ⟨D,_,rfl,az.of af,?_⟩
    have kf:=k _ (aU (o:=.lst ((l.map fun z => Vbahap.within z 0 255).map V.bl)) hD)
    have ee : (l.map fun z => Vbahap.within z 0 255).all id = Vbahap.isText l:=by
     unfold Vbahap.isText
     rw [decide_eq_true hl,List.all_map]
     rfl
    rw [ee]
    exact kf
  ·rw [decide_eq_true (by omega : (100 : Int) < (l.length : Int))]
   refine bc ?_
   have kf:=k H (ao.refl _)
   have ee : Vbahap.isText l = false:=by
    unfold Vbahap.isText
    rw [decide_eq_false hl]
    rfl
   rw [ee] at kf
   exact kf
def Uk (_ : Ad) : Sp:=fun vs H Q _ => ∃ (p : Addr) (q : Nat) (l : List Int),vs = [.int (q : Nat),.ref p] ∧ H p = some (.lst (l.map V.int)) ∧ q < 18 ∧ ∀ H',ao H H' → Q (.bl (inR q l)) H'
theorem XW (T : Txt w.params K mg A) : aE P w K mg base aQ 2 A.jS A.qG ["place","numbers"] (Uk A):=by
 have nd:=Hb.nd
 have ae6:=X3 (P:=P) (w:=w) (base:=base) T
 refine T.sS.ok Hb (fun vs H Q E h => ?_) (fun cdv AA outer s H vs Q E hr h => ?_)
 ·obtain ⟨p,q,l,rfl,hp,hq,k⟩:=h
  rfl
 ·obtain ⟨p,q,l,rfl,hp,hq,k⟩:=h
  have abS : aq 1 _:=hr.mono (by decide)
  have hu:=aZ hr
  refine ⟨_,(au (bo (bz eA (pv 0) (bg T.C0) (bp _)) (ah (aT (cw ae6 abS rfl T.Nd T.sZ.kp T.ad2 .nil aB (aa (pv 1) ae)))) bH)
   (au (dz PassesOwn.never rfl (uK (k1:=.l) (k2:=.t) rfl T.qd (aa (pv 1) (aa (a6 cb (fv (v:=V.ref A.dD) rfl T.dD rfl) (pv 0) (fun _ _ => rfl)) ae))) (k8 rfl (dW (ck (i:=2) nd rfl (Or.inl rfl)) (dW (ck (i:=3) nd rfl (Or.inl rfl)) k7)))
    (ah (bo (PW.pt (mX (bz lg (pv 2) (a6 cb (pv 3) ay (fun _ _ => rfl)) (bp _)) (o8 (bz nu (pv 2) (a6 cb (pv 3) ay (fun _ _ => rfl)) (bp _))))) (ah (aT jC)) bH)))
   (ah (aT jC)))),?_⟩
  refine ⟨_,rfl,rfl,_,rfl,?_⟩
  rw [show decide (V.int ((q : Nat) : Int) = V.int 16) = decide (q = 16) from ie (b:=16)]
  by_cases h16 : q = 16
  ·rw [decide_eq_true h16]
   refine bc ?_
   refine ⟨_,rfl,p,l,rfl,hp,fun H' s => ?_⟩
   have kf:=k H' s
   unfold inR at kf
   rw [if_pos h16] at kf
   exact kf
  ·rw [decide_eq_false h16]
   refine a8 ?_
   have eR : inR q l = (l.zip (eu.getD q [])).all d6:=by
    unfold inR
    rw [if_neg h16]
   rw [eR] at k
   obtain ⟨rs,hrs,hrq⟩:=T.IL
   obtain ⟨ra,ys,hra,hrs2,hyl,hyi⟩:=hrq q hq
   generalize eu.getD q [] = rg at hyl hyi k
   refine ⟨_,rfl,_,rfl,A.dD,_,_,_,rfl,rfl,hrs _,ef hra,p,ra,_,_,rfl,az.of hp,hrs2 _,Be (K:=K) (k1:=.l) (k2:=.t) (a:=p) (b:=ra) (xs:=l.map V.int) (ys:=ys) (fun i σ H4 => ∃ (u v : Option V),σ = [some (.int (q : Nat)),some (.ref p),u,v] ∧ ao H H4 ∧ (l.zip rg).all d6 = ((l.zip rg).drop i).all d6) ?_ ?_ ?_ ?_⟩
   ·exact ⟨none,none,rfl,ao.refl _,rfl⟩
   ·rintro i σ H4 ⟨u,v,_,s4,_⟩
    exact ⟨az.of (s4 _ _ hp),hrs2 _⟩
   ·rintro i x y T0 σ H4 hi hj hT0 ⟨u,v,rfl,s4,ea⟩
    obtain ⟨z,hz,rfl⟩:=dk hi
    have hir : i < rg.length:=by rw [← hyl]; exact (List.getElem?_eq_some_iff.mp hj).1
    obtain ⟨pr,hpr⟩ : ∃ pr,rg[i]? = some pr:=⟨_,List.getElem?_eq_getElem hir⟩
    obtain ⟨b,hb,hbs⟩:=hyi i pr hpr
    rw [hj] at hb
    cases hb
    have hzp : (l.zip rg)[i]? = some (z,pr):=by
     rw [List.getElem?_zip_eq_some]
     exact ⟨hz,hpr⟩
    have hzl:=(List.getElem?_eq_some_iff.mp hzp).1
    have ed : (l.zip rg).drop i = (z,pr) :: (l.zip rg).drop (i + 1):=by
     rw [List.drop_eq_getElem_cons hzl,(List.getElem?_eq_some_iff.mp hzp).2]
    rw [ed,List.all_cons] at ea
    have hTT : upd H4 T0 (.tup [V.int z,V.ref b]) T0 = some (.tup [V.int z,V.ref b]):=af
    have s5 : ao H (upd H4 T0 (.tup [V.int z,V.ref b])):=s4.trans (aU hT0)
    generalize upd H4 T0 (.tup [V.int z,V.ref b]) = H5 at hTT s5 ⊢
    have bad : d6 (z,pr) = false → Q (.bl false) H5:=fun h => by
     have kf:=k H5 s5
     rw [ea,h] at kf
     exact kf
    refine ⟨T0,_,rfl,a4.of hTT,rfl,_,_,rfl,_,_,rfl,rfl,?_⟩
    refine ⟨_,rfl,_,rfl,b,_,_,_,rfl,rfl,hbs _,dw,_,_,rfl,rfl,_,rfl,?_⟩
    by_cases c1 : z < pr.1
    ·rw [decide_eq_true c1]
     refine bc (bc ?_)
     exact bad (by unfold d6; rw [decide_eq_false (by show ¬ pr.1 ≤ z; omega)]; rfl)
    ·rw [decide_eq_false c1]
     refine a8 ?_
     refine ⟨_,rfl,_,rfl,b,_,_,_,rfl,rfl,hbs _,lI,_,_,rfl,rfl,_,rfl,?_⟩
     by_cases c2 : pr.2 < z
     ·rw [decide_eq_true c2]
      refine bc ?_
      exact bad (by
       show (decide (pr.1 ≤ z) && decide (z ≤ pr.2)) = false
       rw [decide_eq_false (by omega : ¬ z ≤ pr.2),Bool.and_false])
     ·rw [decide_eq_false c2]
      refine a8 ?_
      refine ⟨_,_,rfl,s5,?_⟩
      rw [ea]
      have : d6 (z,pr) = true:=by
       unfold d6
       rw [decide_eq_true (by show pr.1 ≤ z; omega),decide_eq_true (by show z ≤ pr.2; omega)]
       rfl
      rw [this,Bool.true_and]
   ·rintro i σ H4 hend hi1 hi2 ⟨u,v,rfl,s4,ea⟩
    have e0 : (l.zip rg).drop i = []:=List.drop_eq_nil_of_le (by
     rw [List.length_zip]
     rw [List.length_map] at hend
     omega)
    rw [e0] at ea
    have kf:=k H4 s4
    rw [ea] at kf
    exact kf
end
end Sh
end
section
namespace Sh
open PySem PySem.Spec PyProof.Rows L2 TL
open Vbahap (State Truth View Flight Msg Bytes decimal pieces)
section
variable {P : Program} {w : World} {K : PySem.W.Frag} {mg : Str → Option Value} {base : Heap} {A : Ad}
theorem adA (T : Txt w.params K mg A) {q : Nat} (hq : q < 18) : ∃ f fd,A.calls[q]? = some (.ref f) ∧ aE P w K mg base aQ 8 f fd ["houses","numbers"] (cU A q) ∧ PySem.W.keepIn K (.ref f) = true ∧ Binds K fd ["houses","numbers"] []:=by
 have c:=q18 hq
 rcases c with rfl | rfl | rfl | rfl | rfl | rfl | rfl | rfl | rfl | rfl | rfl | rfl | rfl | rfl | rfl | rfl | rfl | rfl
 ·exact ⟨_,_,rfl,(KD (P:=P) (w:=w) (base:=base) T).mono (by decide),T.tK.kp,T.aeg⟩
 ·exact ⟨_,_,rfl,(KI (P:=P) (w:=w) (base:=base) T).mono (by decide),T.tN.kp,T.aej⟩
 ·exact ⟨_,_,rfl,(Kt (P:=P) (w:=w) (base:=base) T).mono (by decide),T.tu.kp,T.ad7⟩
 ·exact ⟨_,_,rfl,(Kv (P:=P) (w:=w) (base:=base) T).mono (by decide),T.tD.kp,T.ad9⟩
 ·exact ⟨_,_,rfl,(KC (P:=P) (w:=w) (base:=base) T).mono (by decide),T.tJ.kp,T.aef⟩
 ·exact ⟨_,_,rfl,(KH (P:=P) (w:=w) (base:=base) T).mono (by decide),T.tM.kp,T.aei⟩
 ·exact ⟨_,_,rfl,(Kz (P:=P) (w:=w) (base:=base) T).mono (by decide),T.tH.kp,T.aed⟩
 ·exact ⟨_,_,rfl,(KG (P:=P) (w:=w) (base:=base) T).mono (by decide),T.tL.kp,T.aeh⟩
 ·exact ⟨_,_,rfl,(KL (P:=P) (w:=w) (base:=base) T).mono (by decide),T.tP.kp,T.ael⟩
 ·exact ⟨_,_,rfl,(KJ (P:=P) (w:=w) (base:=base) T).mono (by decide),T.tO.kp,T.aek⟩
 ·exact ⟨_,_,rfl,(Kq (P:=P) (w:=w) (base:=base) T).mono (by decide),T.tm.kp,T.ad4⟩
 ·exact ⟨_,_,rfl,(Kr (P:=P) (w:=w) (base:=base) T).mono (by decide),T.tp.kp,T.ad5⟩
 ·exact ⟨_,_,rfl,(Kw (P:=P) (w:=w) (base:=base) T).mono (by decide),T.tE.kp,T.aea⟩
 ·exact ⟨_,_,rfl,(KA (P:=P) (w:=w) (base:=base) T).mono (by decide),T.tI.kp,T.aee⟩
 ·exact ⟨_,_,rfl,(Ky (P:=P) (w:=w) (base:=base) T).mono (by decide),T.tG.kp,T.aec⟩
 ·exact ⟨_,_,rfl,(Ks (P:=P) (w:=w) (base:=base) T).mono (by decide),T.tq.kp,T.ad6⟩
 ·exact ⟨_,_,rfl,(Kx (P:=P) (w:=w) (base:=base) T).mono (by decide),T.tF.kp,T.aeb⟩
 ·exact ⟨_,_,rfl,(Ku (P:=P) (w:=w) (base:=base) T).mono (by decide),T.tw.kp,T.ad8⟩
def UT (A : Ad) : Sp:=fun vs H Q _ => ∃ (W : Wd) (q : Nat) (l : List Int) (p : Addr),vs = [.ref W.aH,.int (q : Nat),.ref p] ∧ Rep A.toCs H W ∧ Good W.st ∧ H p = some (.lst (l.map V.int)) ∧ Fits q l ∧ W.ms.length + 10000 < sizeLine ∧ W.ms.length ≤ 100000 ∧
 ∀ (H' : Hp) (W' : Wd) (b : Addr),Rep A.toCs H' W' → aO H W H' W' → W'.st = (Vbahap.stepRows W.st (rowsOf q l)).1 → (∀ c o,H c = some o → ¬ W.foot c → c ≠ b) → H' b = some (.lst ((Vbahap.stepRows W.st (rowsOf q l)).2.map V.int)) → Q (.ref b) H'
theorem X6 (T : Txt w.params K mg A) : aE P w K mg base aQ 9 A.j8 A.rp ["houses","place","numbers"] (UT A):=by
 have nd:=HN.nd
 have af7:=KL (P:=P) (w:=w) (base:=base) T
 have af6:=KJ (P:=P) (w:=w) (base:=base) T
 have af5:=KI (P:=P) (w:=w) (base:=base) T
 have af4:=KH (P:=P) (w:=w) (base:=base) T
 have af3:=KG (P:=P) (w:=w) (base:=base) T
 have af2:=KD (P:=P) (w:=w) (base:=base) T
 have af1:=KC (P:=P) (w:=w) (base:=base) T
 have af0:=KA (P:=P) (w:=w) (base:=base) T
 have afZ:=Kz (P:=P) (w:=w) (base:=base) T
 have afY:=Ky (P:=P) (w:=w) (base:=base) T
 have afX:=Kx (P:=P) (w:=w) (base:=base) T
 have afW:=Kw (P:=P) (w:=w) (base:=base) T
 have afV:=Kv (P:=P) (w:=w) (base:=base) T
 have afU:=Ku (P:=P) (w:=w) (base:=base) T
 have afT:=Kt (P:=P) (w:=w) (base:=base) T
 have afS:=Ks (P:=P) (w:=w) (base:=base) T
 have afR:=Kr (P:=P) (w:=w) (base:=base) T
 have afQ:=Kq (P:=P) (w:=w) (base:=base) T
 have aeZ:=XW (P:=P) (w:=w) (base:=base) T
 refine T.tQ.ok HN (fun vs H Q E h => ?_) (fun cdv AA outer s H vs Q E hr h => ?_)
 ·obtain ⟨W,q,l,p,rfl,R,g,hp,hf,hl,hl2,k⟩:=h
  rfl
 ·obtain ⟨W,q,l,p,rfl,R,g,hp,hf,hl,hl2,k⟩:=h
  have afO : aq 5 _:=hr.mono (by decide)
  have afN : aq 8 _:=hr.mono (by decide)
  have afM : aq 6 _:=hr.mono (by decide)
  have afL : aq 8 _:=hr.mono (by decide)
  have afK : aq 2 _:=hr.mono (by decide)
  have afJ : aq 3 _:=hr.mono (by decide)
  have afI : aq 4 _:=hr.mono (by decide)
  have afH : aq 2 _:=hr.mono (by decide)
  have afG : aq 2 _:=hr.mono (by decide)
  have afF : aq 1 _:=hr.mono (by decide)
  have afE : aq 5 _:=hr.mono (by decide)
  have afD : aq 3 _:=hr.mono (by decide)
  have afC : aq 4 _:=hr.mono (by decide)
  have afB : aq 3 _:=hr.mono (by decide)
  have afA : aq 5 _:=hr.mono (by decide)
  have afz : aq 3 _:=hr.mono (by decide)
  have afy : aq 1 _:=hr.mono (by decide)
  have afx : aq 1 _:=hr.mono (by decide)
  have abL : aq 2 _:=hr.mono (by decide)
  have hu:=aZ hr
  refine ⟨_,(au (bo (gp (de (cw aeZ abL rfl T.M6 T.sS.kp T.adU .nil aB (aa (pv 1) (aa (pv 2) ae))))) (ah (aT (bA (aa (bg T.QH) ae)))) bH)
   (ah (aT (XO (a6 cb (fv (v:=V.ref A.eS) rfl T.eS rfl) (pv 1) (fun _ _ => rfl)) (aa (pv 0) (aa (pv 2) ae)))))),?_⟩
  rw [o3 W.st hf] at k
  refine ⟨_,rfl,_,rfl,p,q,l,rfl,hp,hf.1,fun H1 s1 => ⟨_,rfl,?_⟩⟩
  by_cases c : inR q l = true
  ·rw [if_pos c] at k
   rw [c]
   refine a8 ?_
   obtain ⟨f,fd,hc,F,kp,bd⟩:=adA (P:=P) (w:=w) (base:=base) T hf.1
   refine ⟨_,rfl,A.eS,_,_,_,rfl,rfl,T.O4 _,ef hc,f,8,fd,_,cU A q,rfl,F,hr,kp,bd,_,rfl,_,rfl,?_⟩
   refine ⟨W,l,p,rfl,R.same s1,g,s1 _ _ hp,hf,c,hl,hl2,fun H' W' b R' F' es aw hb => ?_⟩
   exact k H' W' b R' ((aO.same s1).trans F') es (fun c o e n => aw c o (s1 _ _ e) n) hb
  ·rw [if_neg c] at k
   have c' : inR q l = false:=by
    cases z : inR q l with
    | true => exact absurd z c
    | false => rfl
   rw [c']
   refine bc ?_
   refine ⟨(by show 1 ≤ sizeLine; decide),fun b hb => ?_⟩
   exact ((aA.refl R).same s1).fin hb k rfl rfl
end
end Sh
end
section
namespace Sh
open PySem PySem.Spec PyProof.Rows L2 TL
open Vbahap (State Truth View Flight Msg Bytes decimal pieces)
section
variable {P : Program} {w : World} {K : PySem.W.Frag} {mg : Str → Option Value} {base : Heap} {A : Ad}
theorem Rep.off {A : Cs} {H : Hp} {W : Wd} {G : Addr} {xs : List V} {o : HO} (R : Rep A H W) (hG : H G = some (.lst xs)) (n : ¬ W.foot G) : Rep A (upd H G o) W :=
 ⟨R.hs.keep hG (by show (["net","inventory","resellers"] : List Str) ≠ (["l"] : List Str); decide +kernel),R.inv.keep hG (by show (["net","flights","kept"] : List Str) ≠ (["l"] : List Str); decide +kernel),
  R.res.keep hG (by show (["net","sales"] : List Str) ≠ (["l"] : List Str); decide +kernel),R.net.keep hG (by show (["messages","sent"] : List Str) ≠ (["l"] : List Str); decide +kernel),by rw [ag (fun z => n (.inr (.inl z.symm)))]; exact R.msg,
  bq R.bF hG (by show (["k"] : List Str) ≠ (["l"] : List Str); decide +kernel),bq R.bJ hG (by show (["d"] : List Str) ≠ (["l"] : List Str); decide +kernel),bq R.bD hG (by show (["d"] : List Str) ≠ (["l"] : List Str); decide +kernel),
  fun p h => bq (R.dC p h) hG (by show (["t"] : List Str) ≠ (["l"] : List Str); decide +kernel),fun p h => (R.cE p h).keep hG (by show (["cap","shut"] : List Str) ≠ (["l"] : List Str); decide +kernel),
  fun p h => (R.b9 p h).keep hG (by show (["r","no","f","seats","stands","version","known"] : List Str) ≠ (["l"] : List Str); decide +kernel),fun p h => (R.cv p h).keep hG (by show (["r","no","f","seats","unwanted","seen","stood"] : List Str) ≠ (["l"] : List Str); decide +kernel),
  R.d7,R.cT,R.dQ,R.dZ⟩
theorem Tf (a : List Int) (l : List (List Int)) : PyFlat.told (a :: l) = ((a.length : Int) :: a) ++ PyFlat.told l:=by
 unfold PyFlat.told
 rw [List.flatMap_cons]
def G0 (K : PySem.W.Frag) : Sp:=fun vs H Q _ => ∃ (p : Addr) (ns : List Int),vs = [.ref p] ∧ az K H p (ns.map V.int) ∧ PyVbahap.answers_asked ns = true ∧ ns.length ≤ 25000 ∧ ∀ (H' : Hp) (b : Addr),H' b = some (.lst ((PyVbahap.answers ns).map V.int)) → Q (.ref b) H'
def US (K : PySem.W.Frag) (_ : Ad) : Sp:=G0 K
theorem X5 (T : Txt w.params K mg A) : aE P w K mg base aQ 10 A.fX A.n4 ["calls"] (US K A):=by
 have nd:=HM.nd
 have afs:=Yq (P:=P) (w:=w) (base:=base) T
 have ae8:=X6 (P:=P) (w:=w) (base:=base) T
 have ae0:=XX (P:=P) (w:=w) (base:=base) T
 refine T.Fc.ok HM (fun vs H Q E h => ?_) (fun cdv AA outer s H vs Q E hr h => ?_)
 ·obtain ⟨p,ns,rfl,hp,hask,hlen,k⟩:=h
  rfl
 ·obtain ⟨p,ns,rfl,hp,hask,hlen,k⟩:=h
  have acf : aq 4 _:=hr.mono (by decide)
  have abU : aq 9 _:=hr.mono (by decide)
  have abM : aq 1 _:=hr.mono (by decide)
  have hu:=aZ hr
  refine ⟨_,(au (bI (i:=1) nd rfl (Or.inl rfl) (Kg T.mj afs acf rfl T.Nm T.aeG .nil aB))
   (au (bI (i:=2) nd rfl (Or.inl rfl) (bA ae))
   (au (dz PassesOwn.never rfl (fu (cw ae0 abM rfl T.M7 T.sT.kp T.adV .nil aB (aa (pv 0) ae))) (k8 rfl (dW (ck (i:=3) nd rfl (Or.inl rfl)) (dW (ck (i:=4) nd rfl (Or.inl rfl)) k7)))
    (au (bI (i:=5) nd rfl (Or.inl rfl) (cw ae8 abU rfl T.Ng T.tQ.kp T.aem .nil aB (aa (pv 1) (aa (pv 3) (aa (pv 4) ae)))))
   (au (bB (gr PySem.F.plainAttrs_list PySem.F.slot_list_append PySem.F.type_list_append lr (pv 2) (aa (dB fZ (by rfl) T.dX PySem.boot_len (aa (pv 5) ae)) ae)))
   (ah (bB (gr PySem.F.plainAttrs_list PySem.F.slot_list_extend PySem.F.type_list_extend K6 (pv 2) (aa (pv 5) ae)))))))
   (ah (aT (pv 2)))))),?_⟩
  obtain ⟨cs,hcs,hc4,ean⟩ : ∃ cs,PyFlat.calls PyVbahap.shape ns.length ns = some cs ∧ cs.length ≤ 400 ∧ PyVbahap.answers ns = PyFlat.told (PyFlat.played VbahapNeutral.step VbahapNeutral.start cs):=by
   unfold PyVbahap.answers_asked at hask
   unfold PyVbahap.answers
   rw [adC] at hask ⊢
   cases hc : PyFlat.calls PyVbahap.shape ns.length ns with
   | none => rw [hc] at hask; cases hask
   | some cs =>
     rw [hc] at hask
     simp only [Bool.and_eq_true] at hask
     have h1:=hask.1
     unfold PyFlat.atMost at h1
     exact ⟨cs,rfl,of_decide_eq_true h1,rfl⟩
  rw [ean] at k
  intro x d n m e
  refine ⟨x,d,rfl,af,fun HA W R ea es em ff bu => ⟨rfl,?_⟩⟩
  have sA : ao H HA:=qf n m bu
  refine ⟨Nat.zero_le _,fun G hG => ?_⟩
  have sB : ao HA (upd HA G (.lst [])):=aU hG
  have hGB : upd HA G (.lst []) G = some (.lst (([] : List Int).map V.int)):=af
  have nHA : ∀ b,upd HA G (.lst []) b = none → HA b = none:=fun b h => (kr h).2
  generalize upd HA G (.lst []) = HB at sB hGB nHA ⊢
  refine ⟨_,rfl,p,ns,ns.length,cs,rfl,ao.seq (sA.trans sB) hp,hcs,by omega,fun HC L ts qs sC nL hL pa ecs hfit => ?_⟩
  have nG : ¬ W.foot G:=R.kN hG
  have out : ∀ b,HB b = none → ¬ W.foot b ∧ b ≠ G:=fun b h => ⟨R.kN (nHA b h),(bj hGB h).symm⟩
  have hql : qs.length ≤ 400:=by
   rw [ecs,List.length_map] at hc4
   exact hc4
  refine ⟨L,rfl,⟨_,az.of hL⟩,jQ (K:=K) (a:=L) (xs:=ts.map V.ref) (fun i σ H4 => ∃ (u v t : Option V) (W4 : Wd) (acc : List Int),σ = [some (.ref p),some (.ref x),some (.ref G),u,v,t] ∧ Rep A.toCs H4 W4 ∧ Good W4.st ∧ W4.aH = x ∧ W4.ms.length ≤ 100 * i ∧ (∀ c o,HC c = some o → ¬ W.foot c → c ≠ G → H4 c = some o) ∧ (∀ b,W4.foot b → W.foot b ∨ HC b = none) ∧ H4 G = some (.lst (acc.map V.int)) ∧ acc.length ≤ 201 * i ∧
   PyFlat.told (PyFlat.played VbahapNeutral.step VbahapNeutral.start cs) = acc ++ PyFlat.told (PyFlat.played VbahapNeutral.step W4.st (cs.drop i))) ?_ ?_ ?_ ?_⟩
  ·refine ⟨none,none,none,W,[],rfl,R.same (sB.trans sC),by rw [es]; exact acp,ea,by rw [em]; exact Nat.zero_le _,fun c o e _ _ => e,fun b f => .inl f,sC _ _ hGB,Nat.zero_le _,?_⟩
   rw [es]
   rfl
  ·rintro i σ H4 _ ⟨u,v,t,W4,acc,_,_,_,_,_,kp,_⟩
   exact az.of (kp _ _ hL (out L nL).1 (out L nL).2)
  ·rintro i y σ H4 hi ⟨u,v,t,W4,acc,rfl,R4,g4,aH4,hm4,kp,ft,hG4,hal,etold⟩
   obtain ⟨t0,ht0,rfl⟩:=dk hi
   have hlt:=(List.getElem?_eq_some_iff.mp ht0).1
   have hlq : i < qs.length:=by rw [← pa.1]; exact hlt
   obtain ⟨ql,hqi⟩ : ∃ ql,qs[i]? = some ql:=⟨_,List.getElem?_eq_getElem hlq⟩
   obtain ⟨la,part⟩:=pa.2 i t0 ql ht0 hqi
   have fits:=hfit ql (List.mem_of_getElem? hqi)
   have hci : cs[i]? = some (rowsOf ql.1 ql.2):=by rw [ecs,List.getElem?_map,hqi]; rfl
   have hcl:=(List.getElem?_eq_some_iff.mp hci).1
   have ed : cs.drop i = rowsOf ql.1 ql.2 :: cs.drop (i + 1):=by
    rw [List.drop_eq_getElem_cons hcl,(List.getElem?_eq_some_iff.mp hci).2]
   have nt:=out t0 part.n1
   have nl:=out la part.n2
   have ht4:=kp _ _ part.tup nt.1 nt.2
   have hl4:=kp _ _ part.lst nl.1 nl.2
   have hGC : HC G = some (.lst (([] : List Int).map V.int)):=sC _ _ hGB
   have nG4 : ¬ W4.foot G:=fun f => (ft G f).elim nG (fun z => by rw [z] at hGC; cases hGC)
   have eplay : PyFlat.played VbahapNeutral.step W4.st (cs.drop i) = (Vbahap.stepRows W4.st (rowsOf ql.1 ql.2)).2 :: PyFlat.played VbahapNeutral.step (Vbahap.stepRows W4.st (rowsOf ql.1 ql.2)).1 (cs.drop (i + 1)):=by
    rw [ed]
    rfl
   rw [eplay,Tf] at etold
   have hrl:=WW (q:=ql.1) (l:=ql.2) g4 fits
   have hnr:=aaX (q:=ql.1) (l:=ql.2) g4 fits
   have hgr:=acr (q:=ql.1) (l:=ql.2) g4 fits
   rw [kI] at hnr
   have hm4' : W4.ms.length ≤ 40000:=by omega
   refine ⟨t0,_,rfl,a4.of ht4,rfl,_,_,rfl,_,_,rfl,rfl,?_⟩
   refine ⟨_,rfl,_,rfl,_,rfl,W4,ql.1,ql.2,la,?_,R4,g4,hl4,fits,?_,by omega,fun H5 W5 b R5 F5 es5 aw hb => ?_⟩
   ·rw [aH4] <;> rfl
   ·rw [sizeLine_eq]
    omega
   ·rw [← es5] at hnr hgr etold
    rw [kI] at hnr
    generalize (Vbahap.stepRows W4.st (rowsOf ql.1 ql.2)).2 = ans at hb hrl etold
    have hG5 : H5 G = some (.lst (acc.map V.int)):=F5.keep _ _ hG4 nG4
    have nb : b ≠ G:=(aw G _ hG4 nG4).symm
    have nG5 : ¬ W5.foot G:=fun f => (F5.foot G f).elim nG4 (fun z => by rw [z] at hG4; cases hG4)
    refine ⟨_,rfl,.inl ⟨rfl,_,az.of hG5⟩,_,rfl,b,_,rfl,.inl (az.of hb),G,_,_,rfl,rfl,hG5,?_,?_⟩
    ·rw [List.length_map,sizeLine_eq]
     omega
    ·have hG6 : upd H5 G (.lst (acc.map V.int ++ [V.int ((ans.map V.int).length : Nat)])) G = some (.lst (acc.map V.int ++ [V.int ((ans.map V.int).length : Nat)])):=af
     have hb6 : upd H5 G (.lst (acc.map V.int ++ [V.int ((ans.map V.int).length : Nat)])) b = some (.lst (ans.map V.int)):=by rw [ag nb]; exact hb
     refine ⟨_,rfl,.inl ⟨rfl,_,az.of hG6⟩,_,rfl,G,b,_,_,rfl,rfl,hG6,hb6,?_,_,_,_,W5,acc ++ ((ans.length : Int) :: ans),rfl,?_,hgr,F5.adr.aH.trans aH4,by omega,?_,?_,?_,?_,?_⟩
     ·rw [List.length_append,List.length_map,List.length_map,List.length_singleton,sizeLine_eq]
      omega
     ·exact Rep.off (Rep.off R5 hG5 nG5) hG6 nG5
     ·intro c o e nf ng
      rw [ag ng,ag ng]
      exact F5.keep c o (kp c o e nf ng) (fun f => (ft c f).elim nf (fun z => by rw [z] at e; cases e))
     ·intro c f
      rcases F5.foot c f with z | z
      ·exact ft c z
      ·by_cases cf : W.foot c
       ·exact .inl cf
       ·right
        cases hc : HC c with
        | none => rfl
        | some o =>
          by_cases cg : c = G
          ·rw [cg] at f
           exact absurd f nG5
          ·rw [kp c o hc cf cg] at z
           cases z
     ·rw [af,List.length_map,List.map_append,List.map_cons,List.append_assoc]
      rfl
     ·rw [List.length_append,List.length_cons]
      omega
     ·rw [etold,List.append_assoc]
  ·rintro σ H4 ⟨u,v,t,W4,acc,rfl,_,_,_,_,_,_,hG4,_,etold⟩
   have e0 : cs.drop (ts.map V.ref).length = []:=List.drop_eq_nil_of_le (by rw [List.length_map,pa.1,ecs,List.length_map]; exact Nat.le_refl _)
   rw [e0] at etold
   have e1 : PyFlat.told (PyFlat.played VbahapNeutral.step VbahapNeutral.start cs) = acc:=by
    rw [etold]
    show acc ++ [] = acc
    rw [List.append_nil]
   rw [e1] at k
   exact ⟨_,rfl,k H4 G hG4⟩
end
end Sh
end
section
namespace Sh
open PySem PySem.Spec PyProof.Rows L2
theorem oT {K : PySem.W.Frag} {k : Nat} {a : Addr} {d : TD} (h : cy K k (.ref a) d = true) : cB K k (.ref a) d:=by
 obtain ⟨v,r,t⟩:=Tj k _ d h
 have e : v = .ref a:=RelV.inj r (show RelV (.ref a) (.ref a) from rfl)
 rw [← e]
 exact t
theorem ni {K : PySem.W.Frag} {a : Addr} {x y : Int} (h : cy K 1 (.ref a) (.t [.i x,.i y]) = true) : ∀ H,a4 K H a [.int x,.int y]:=by
 have t:=oT h
 unfold cB at t
 obtain ⟨b,xs,e,sq,hl,tt⟩:=t
 cases e
 match xs,hl with
 | [u,v],_ =>
   have e1:=tt 0 u (.i x) rfl rfl
   have e2:=tt 1 v (.i y) rfl rfl
   unfold cB at e1 e2
   subst e1 e2
   exact sq
theorem aeR {P : Program} {w : World} {K : PySem.W.Frag} {h : Heap} {mg : Str → Option Value} {fa : Addr} {lv : Nat} {sp : Sp} (X : K.In h) (G : h.Ns mainGlobals mg) (hfa : mg "answers" = some (.ref fa))
 (ok : ∀ (A : Ad),Txt w.params K mg A → ∀ base,aE P w K mg base aQ lv A.fX A.n4 ["calls"] sp)
 {a5 : Addr}
 {bS : Addr}
 {aP : Addr}
 {aG : Addr}
 {aV : Addr}
 {bw : Addr}
 {aD : Addr}
 {gO : Addr} {Zg R7 : Option Addr} {Wi : Array (Option Value)} {aao Mp OG JM Co Qa : Value}
 {gN : Addr} {Zf R6 : Option Addr} {Wh : Array (Option Value)} {aan Mo OF JL Cn P9 : Value}
 {gP : Addr} {Zh R8 : Option Addr} {Wj : Array (Option Value)} {aap Mq OH JN Cp Qb : Value}
 {gM : Addr} {Ze RZ : Option Addr} {Wg : Array (Option Value)} {aam Mn OE JK Cm P8 : Value}
 {gL : Addr} {Zd RY : Option Addr} {Wf : Array (Option Value)} {aal Mm OD JJ Ck P7 : Value}
 {j4 : Addr} {YG Rr : Option Addr} {VG : Array (Option Value)} {ZP LN N2 Jd BM Pn : Value}
 {ib : Addr} {ZD Sy : Option Addr} {WI : Array (Option Value)} {aaK ML O2 J8 CN Qy : Value}
 {gQ : Addr} {Zi R9 : Option Addr} {Wl : Array (Option Value)} {aaq Mr OI JO Cq Qc : Value}
 {g9 : Addr} {Zt Sm : Option Addr} {Wy : Array (Option Value)} {aaB MC OT JZ CD Qp : Value}
 {gZ : Addr} {Zq Sj : Option Addr} {Wu : Array (Option Value)} {aay Mz OQ JW CA Qm : Value}
 {hC : Addr} {Zu Sn : Option Addr} {Wz : Array (Option Value)} {aaC MD OU J0 CF Qq : Value}
 {gX : Addr} {Zo Sg : Option Addr} {Ws : Array (Option Value)} {aaw Mx OO JU Cy Qk : Value}
 {g0 : Addr} {Zr Sk : Option Addr} {Wv : Array (Option Value)} {aaz MA OR JX CB Qn : Value}
 {gS : Addr} {Zk Sb : Option Addr} {Wn : Array (Option Value)} {aas Mt OK JQ Ct Qg : Value}
 {g6 : Addr} {Zs Sl : Option Addr} {Ww : Array (Option Value)} {aaA MB OS JY CC Qo : Value}
 {gR : Addr} {Zj Sa : Option Addr} {Wm : Array (Option Value)} {aar Ms OJ JP Cr Qe : Value}
 {hX : Addr} {Zz Sv : Option Addr} {WE : Array (Option Value)} {aaH MI OZ J5 CK Qv : Value}
 {gT : Addr} {Zl Sd : Option Addr} {Wo : Array (Option Value)} {aat Mu OL JR Cu Qh : Value}
 {hZ : Addr} {ZA Sw : Option Addr} {WG : Array (Option Value)} {aaI MJ O0 J6 CL Qw : Value}
 {gW : Addr} {Zn Sf : Option Addr} {Wr : Array (Option Value)} {aav Mw ON JT Cw Qj : Value}
 {gU : Addr} {Zm Se : Option Addr} {Wq : Array (Option Value)} {aau Mv OM JS Cv Qi : Value}
 {hJ : Addr} {Zw Sr : Option Addr} {WB : Array (Option Value)} {aaE MF OW J2 CH Qs : Value}
 {hE : Addr} {Zv So : Option Addr} {WA : Array (Option Value)} {aaD ME OV J1 CG Qr : Value}
 {hU : Addr} {Zx Ss : Option Addr} {WC : Array (Option Value)} {aaF MG OX J3 CI Qt : Value}
 {hW : Addr} {Zy Su : Option Addr} {WD : Array (Option Value)} {aaG MH OY J4 CJ Qu : Value}
 {gY : Addr} {Zp Si : Option Addr} {Wt : Array (Option Value)} {aax My OP JV Cz Ql : Value}
 {gK : Addr} {Zc RX : Option Addr} {We : Array (Option Value)} {aak Ml OC JI Cj P6 : Value}
 {gF : Addr} {Y7 RS : Option Addr} {V8 : Array (Option Value)} {aaf Mf Ox JD Cd P0 : Value}
 {gJ : Addr} {Zb RW : Option Addr} {Wc : Array (Option Value)} {aaj Mj OB JH Ci P5 : Value}
 {gI : Addr} {Za RV : Option Addr} {Wb : Array (Option Value)} {aai Mi OA JG Cg P4 : Value}
 {gD : Addr} {Y5 RQ : Option Addr} {V6 : Array (Option Value)} {aad Md Ov JB Cb PY : Value}
 {gH : Addr} {Y9 RU : Option Addr} {Wa : Array (Option Value)} {aah Mh Oz JF Cf P2 : Value}
 {gG : Addr} {Y8 RT : Option Addr} {V9 : Array (Option Value)} {aag Mg Oy JE Ce P1 : Value}
 {gE : Addr} {Y6 RR : Option Addr} {V7 : Array (Option Value)} {aae Me Ow JC Cc PZ : Value}
 {j6 : Addr} {Y1 RM : Option Addr} {V2 : Array (Option Value)} {Z9 L9 Oo Jx B7 PR : Value}
 {jR : Addr} {Yv Rg : Option Addr} {Vv : Array (Option Value)} {ZE LB NR IT BB O9 : Value}
 {jZ : Addr} {YD Ro : Option Addr} {VD : Array (Option Value)} {ZM LK NZ Ja BJ Pj : Value}
 {jX : Addr} {YB Rm : Option Addr} {VB : Array (Option Value)} {ZK LI NX IZ BH Pg : Value}
 {jY : Addr} {YC Rn : Option Addr} {VC : Array (Option Value)} {ZL LJ NY I0 BI Ph : Value}
 {jW : Addr} {YA Rl : Option Addr} {VA : Array (Option Value)} {ZJ LH NW IY BG Pf : Value}
 {jV : Addr} {Yz Rk : Option Addr} {Vz : Array (Option Value)} {ZI LG NV IX BF Pe : Value}
 {ia : Addr} {ZC Sx : Option Addr} {WH : Array (Option Value)} {aaJ MK O1 J7 CM Qx : Value}
 {j5 : Addr} {YH Rt : Option Addr} {VH : Array (Option Value)} {ZQ LO N3 Je BN Po : Value}
 {fR : Addr} {YV RG : Option Addr} {VW : Array (Option Value)} {Z3 L3 Og Jr B1 PH : Value}
 {fU : Addr} {YY RJ : Option Addr} {VZ : Array (Option Value)} {Z6 L6 Oj Ju B4 PM : Value}
 {fI : Addr} {YL Rx : Option Addr} {VM : Array (Option Value)} {ZU LS N7 Ji BR Pt : Value}
 {fK : Addr} {YN Rz : Option Addr} {VO : Array (Option Value)} {ZW LV N9 Jk BU Pw : Value}
 {fQ : Addr} {YU RF : Option Addr} {VU : Array (Option Value)} {Z2 L1 Of Jq B0 PF : Value}
 {j7 : Addr} {Y2 RN : Option Addr} {V3 : Array (Option Value)} {aaa Ma Oq Jy B8 PU : Value}
 {fT : Addr} {YX RI : Option Addr} {VY : Array (Option Value)} {Z5 L5 Oi Jt B3 PL : Value}
 {fO : Addr} {YS RD : Option Addr} {VS : Array (Option Value)} {Z0 LZ Od Jo BY PB : Value}
 {fS : Addr} {YW RH : Option Addr} {VX : Array (Option Value)} {Z4 L4 Oh Js B2 PJ : Value}
 {jU : Addr} {Yy Rj : Option Addr} {Vy : Array (Option Value)} {ZH LF NU IW BE Pd : Value}
 {fW : Addr} {Y0 RL : Option Addr} {V1 : Array (Option Value)} {Z8 L8 Om Jw B6 PQ : Value}
 {fV : Addr} {YZ RK : Option Addr} {V0 : Array (Option Value)} {Z7 L7 Ol Jv B5 PN : Value}
 {fF : Addr} {YI Ru : Option Addr} {VI : Array (Option Value)} {ZR LP N4 Jf BO Pp : Value}
 {fG : Addr} {YJ Rv : Option Addr} {VJ : Array (Option Value)} {ZS LQ N5 Jg BP Pq : Value}
 {fL : Addr} {YO RA : Option Addr} {VP : Array (Option Value)} {ZX LW Oa Jl BV Px : Value}
 {fP : Addr} {YT RE : Option Addr} {VT : Array (Option Value)} {Z1 L0 Oe Jp BZ PD : Value}
 {fN : Addr} {YR RC : Option Addr} {VR : Array (Option Value)} {ZZ LY Oc Jn BX Pz : Value}
 {fH : Addr} {YK Rw : Option Addr} {VL : Array (Option Value)} {ZT LR N6 Jh BQ Pr : Value}
 {fM : Addr} {YQ RB : Option Addr} {VQ : Array (Option Value)} {ZY LX Ob Jm BW Py : Value}
 {j3 : Addr} {YF Rq : Option Addr} {VF : Array (Option Value)} {ZO LM N1 Jc BL Pl : Value}
 {fJ : Addr} {YM Ry : Option Addr} {VN : Array (Option Value)} {ZV LU N8 Jj BS Pu : Value}
 {jT : Addr} {Yx Ri : Option Addr} {Vx : Array (Option Value)} {ZG LD NT IV BD Pc : Value}
 {j0 : Addr} {YE Rp : Option Addr} {VE : Array (Option Value)} {ZN LL N0 Jb BK Pk : Value}
 {jS : Addr} {Yw Rh : Option Addr} {Vw : Array (Option Value)} {ZF LC NS IU BC Pb : Value}
 {j8 : Addr} {Y4 RP : Option Addr} {V5 : Array (Option Value)} {aac Mc Ou JA Ca PX : Value}
 {fX : Addr} {Y3 RO : Option Addr} {V4 : Array (Option Value)} {aab Mb Ot Jz B9 PV : Value}
 {dv : Addr}
 {du : Addr}
 {dD : Addr}
 {eS : Addr}
 {dE : Addr}
 {kU : Addr}
 {kW : Addr}
 {kX : Addr}
 {kT : Addr}
 {kS : Addr}
 {GL : Tok}
 {GJ : Tok}
 {Gq : Tok}
 {GN : Tok}
 {Gn : Tok}
 {GD : Tok}
 {Gm : Tok}
 {Gr : Tok}
 {GG : Tok}
 {Gk : Tok}
 {Gz : Tok}
 {GK : Tok}
 {Gj : Tok}
 {Gw : Tok}
 {Gv : Tok}
 {Gp : Tok}
 {GI : Tok}
 {Gy : Tok}
 {Gx : Tok}
 {GB : Tok}
 {GA : Tok}
 {GH : Tok}
 {Gu : Tok}
 {Gs : Tok}
 {GC : Tok}
 {GF : Tok}
 {ddC : Option Addr} {nC : Nat} {slC : Array (Option Value)} {esB : Array DictEntry} {nB : Nat}
 (Em : PySem.W.nsIn K mainGlobals "Net" = some (some (.ref a5)))
 (EO : PySem.W.nsIn K mainGlobals "Flight" = some (some (.ref bS)))
 (Ep : PySem.W.nsIn K mainGlobals "KeptSale" = some (some (.ref aP)))
 (EK : PySem.W.nsIn K mainGlobals "Inventory" = some (some (.ref aG)))
 (Eg : PySem.W.nsIn K mainGlobals "OwnSale" = some (some (.ref aV)))
 (Ed : PySem.W.nsIn K mainGlobals "Resellers" = some (some (.ref bw)))
 (EM : PySem.W.nsIn K mainGlobals "Houses" = some (some (.ref aD)))
 (Ek : PySem.W.findIn K (.ref a5) "__init__" = some (some (.ref gO)))
 (Ap : PySem.W.isFn K (.ref gO) = true)
 (yh : K.lookup gO = some ⟨aao,Zg,.func (PySem.W.fnOf "__init__" "Net.__init__" (ak jd) (aj jd) (ab jd) .none Mp OG JM R7 Co Qa),Wi⟩)
 (zI : PySem.W.codeIn K Co "Net.__init__" = true)
 (vJ : PySem.W.keepIn K (.ref gO) = true)
 (Ej : PySem.W.findIn K (.ref a5) "send" = some (some (.ref gN)))
 (Ao : PySem.W.isFn K (.ref gN) = true)
 (yg : K.lookup gN = some ⟨aan,Zf,.func (PySem.W.fnOf "send" "Net.send" (ak jc) (aj jc) (ab jc) .none Mo OF JL R6 Cn P9),Wh⟩)
 (zH : PySem.W.codeIn K Cn "Net.send" = true)
 (pB : PySem.W.keepIn K (.ref gN) = true)
 (El : PySem.W.findIn K (.ref a5) "has" = some (some (.ref gP)))
 (Aq : PySem.W.isFn K (.ref gP) = true)
 (yi : K.lookup gP = some ⟨aap,Zh,.func (PySem.W.fnOf "has" "Net.has" (ak je) (aj je) (ab je) .none Mq OH JN R8 Cp Qb),Wj⟩)
 (zJ : PySem.W.codeIn K Cp "Net.has" = true)
 (pC : PySem.W.keepIn K (.ref gP) = true)
 (Ei : PySem.W.findIn K (.ref a5) "take" = some (some (.ref gM)))
 (An : PySem.W.isFn K (.ref gM) = true)
 (yf : K.lookup gM = some ⟨aam,Ze,.func (PySem.W.fnOf "take" "Net.take" (ak jb) (aj jb) (ab jb) .none Mn OE JK RZ Cm P8),Wg⟩)
 (zG : PySem.W.codeIn K Cm "Net.take" = true)
 (pA : PySem.W.keepIn K (.ref gM) = true)
 (Eh : PySem.W.findIn K (.ref a5) "take_all" = some (some (.ref gL)))
 (Am : PySem.W.isFn K (.ref gL) = true)
 (ye : K.lookup gL = some ⟨aal,Zd,.func (PySem.W.fnOf "take_all" "Net.take_all" (ak ja) (aj ja) (ab ja) .none Mm OD JJ RY Ck P7),Wf⟩)
 (zF : PySem.W.codeIn K Ck "Net.take_all" = true)
 (pz : PySem.W.keepIn K (.ref gL) = true)
 (DJ : PySem.W.nsIn K mainGlobals "is_final" = some (some (.ref j4)))
 (xB : K.lookup j4 = some ⟨ZP,YG,.func (PySem.W.fnOf "is_final" "is_final" (ak iD) (aj iD) (ab iD) .none LN N2 Jd Rr BM Pn),VG⟩)
 (y2 : PySem.W.codeIn K BM "is_final" = true)
 (vb : PySem.W.keepIn K (.ref j4) = true)
 (EN : PySem.W.findIn K (.ref bS) "__init__" = some (some (.ref ib)))
 (AO : PySem.W.isFn K (.ref ib) = true)
 (yF : K.lookup ib = some ⟨aaK,ZD,.func (PySem.W.fnOf "__init__" "Flight.__init__" (ak jA) (aj jA) (ab jA) .none ML O2 J8 Sy CN Qy),WI⟩)
 (Aa : PySem.W.codeIn K CN "Flight.__init__" = true)
 (vN : PySem.W.keepIn K (.ref ib) = true)
 (Eo : PySem.W.findIn K (.ref aP) "__init__" = some (some (.ref gQ)))
 (Ar : PySem.W.isFn K (.ref gQ) = true)
 (yj : K.lookup gQ = some ⟨aaq,Zi,.func (PySem.W.fnOf "__init__" "KeptSale.__init__" (ak jf) (aj jf) (ab jf) .none Mr OI JO R9 Cq Qc),Wl⟩)
 (zK : PySem.W.codeIn K Cq "KeptSale.__init__" = true)
 (vK : PySem.W.keepIn K (.ref gQ) = true)
 (EC : PySem.W.findIn K (.ref aG) "__init__" = some (some (.ref g9)))
 (AF : PySem.W.isFn K (.ref g9) = true)
 (yw : K.lookup g9 = some ⟨aaB,Zt,.func (PySem.W.fnOf "__init__" "Inventory.__init__" (ak jr) (aj jr) (ab jr) .none MC OT JZ Sm CD Qp),Wy⟩)
 (zV : PySem.W.codeIn K CD "Inventory.__init__" = true)
 (vL : PySem.W.keepIn K (.ref g9) = true)
 (Ez : PySem.W.findIn K (.ref aG) "sales_that" = some (some (.ref gZ)))
 (AB : PySem.W.isFn K (.ref gZ) = true)
 (yr : K.lookup gZ = some ⟨aay,Zq,.func (PySem.W.fnOf "sales_that" "Inventory.sales_that" (ak gk) (aj gk) (ab gk) .none Mz OQ JW Sj CA Qm),Wu⟩)
 (zS : PySem.W.codeIn K CA "Inventory.sales_that" = true)
 (pK : PySem.W.keepIn K (.ref gZ) = true)
 (ED : PySem.W.findIn K (.ref aG) "held_on" = some (some (.ref hC)))
 (AG : PySem.W.isFn K (.ref hC) = true)
 (yx : K.lookup hC = some ⟨aaC,Zu,.func (PySem.W.fnOf "held_on" "Inventory.held_on" (ak gm) (aj gm) (ab gm) .none MD OU J0 Sn CF Qq),Wz⟩)
 (zW : PySem.W.codeIn K CF "Inventory.held_on" = true)
 (pN : PySem.W.keepIn K (.ref hC) = true)
 (Ex : PySem.W.findIn K (.ref aG) "sells" = some (some (.ref gX)))
 (Ay : PySem.W.isFn K (.ref gX) = true)
 (yp : K.lookup gX = some ⟨aaw,Zo,.func (PySem.W.fnOf "sells" "Inventory.sells" (ak jm) (aj jm) (ab jm) .none Mx OO JU Sg Cy Qk),Ws⟩)
 (zQ : PySem.W.codeIn K Cy "Inventory.sells" = true)
 (pI : PySem.W.keepIn K (.ref gX) = true)
 (EA : PySem.W.findIn K (.ref aG) "room" = some (some (.ref g0)))
 (AD : PySem.W.isFn K (.ref g0) = true)
 (yt : K.lookup g0 = some ⟨aaz,Zr,.func (PySem.W.fnOf "room" "Inventory.room" (ak jo) (aj jo) (ab jo) .none MA OR JX Sk CB Qn),Wv⟩)
 (zT : PySem.W.codeIn K CB "Inventory.room" = true)
 (pL : PySem.W.keepIn K (.ref g0) = true)
 (Es : PySem.W.findIn K (.ref aG) "tell" = some (some (.ref gS)))
 (Au : PySem.W.isFn K (.ref gS) = true)
 (yl : K.lookup gS = some ⟨aas,Zk,.func (PySem.W.fnOf "tell" "Inventory.tell" (ak jh) (aj jh) (ab jh) .none Mt OK JQ Sb Ct Qg),Wn⟩)
 (zM : PySem.W.codeIn K Ct "Inventory.tell" = true)
 (pE : PySem.W.keepIn K (.ref gS) = true)
 (EB : PySem.W.findIn K (.ref aG) "keep" = some (some (.ref g6)))
 (AE : PySem.W.isFn K (.ref g6) = true)
 (yu : K.lookup g6 = some ⟨aaA,Zs,.func (PySem.W.fnOf "keep" "Inventory.keep" (ak jq) (aj jq) (ab jq) .none MB OS JY Sl CC Qo),Ww⟩)
 (zU : PySem.W.codeIn K CC "Inventory.keep" = true)
 (pM : PySem.W.keepIn K (.ref g6) = true)
 (Er : PySem.W.findIn K (.ref aG) "turn" = some (some (.ref gR)))
 (As : PySem.W.isFn K (.ref gR) = true)
 (yk : K.lookup gR = some ⟨aar,Zj,.func (PySem.W.fnOf "turn" "Inventory.turn" (ak jg) (aj jg) (ab jg) .none Ms OJ JP Sa Cr Qe),Wm⟩)
 (zL : PySem.W.codeIn K Cr "Inventory.turn" = true)
 (pD : PySem.W.keepIn K (.ref gR) = true)
 (EI : PySem.W.findIn K (.ref aG) "clear_flight" = some (some (.ref hX)))
 (AL : PySem.W.isFn K (.ref hX) = true)
 (yC : K.lookup hX = some ⟨aaH,Zz,.func (PySem.W.fnOf "clear_flight" "Inventory.clear_flight" (ak jx) (aj jx) (ab jx) .none MI OZ J5 Sv CK Qv),WE⟩)
 (z6 : PySem.W.codeIn K CK "Inventory.clear_flight" = true)
 (pS : PySem.W.keepIn K (.ref hX) = true)
 (Et : PySem.W.findIn K (.ref aG) "take_back" = some (some (.ref gT)))
 (Av : PySem.W.isFn K (.ref gT) = true)
 (ym : K.lookup gT = some ⟨aat,Zl,.func (PySem.W.fnOf "take_back" "Inventory.take_back" (ak ji) (aj ji) (ab ji) .none Mu OL JR Sd Cu Qh),Wo⟩)
 (zN : PySem.W.codeIn K Cu "Inventory.take_back" = true)
 (pF : PySem.W.keepIn K (.ref gT) = true)
 (EJ : PySem.W.findIn K (.ref aG) "change_cap" = some (some (.ref hZ)))
 (AM : PySem.W.isFn K (.ref hZ) = true)
 (yD : K.lookup hZ = some ⟨aaI,ZA,.func (PySem.W.fnOf "change_cap" "Inventory.change_cap" (ak jy) (aj jy) (ab jy) .none MJ O0 J6 Sw CL Qw),WG⟩)
 (z7 : PySem.W.codeIn K CL "Inventory.change_cap" = true)
 (pT : PySem.W.keepIn K (.ref hZ) = true)
 (Ew : PySem.W.findIn K (.ref aG) "shut_flight" = some (some (.ref gW)))
 (Ax : PySem.W.isFn K (.ref gW) = true)
 (yo : K.lookup gW = some ⟨aav,Zn,.func (PySem.W.fnOf "shut_flight" "Inventory.shut_flight" (ak jk) (aj jk) (ab jk) .none Mw ON JT Sf Cw Qj),Wr⟩)
 (zP : PySem.W.codeIn K Cw "Inventory.shut_flight" = true)
 (pH : PySem.W.keepIn K (.ref gW) = true)
 (Eu : PySem.W.findIn K (.ref aG) "standing_at_first" = some (some (.ref gU)))
 (Aw : PySem.W.isFn K (.ref gU) = true)
 (yn : K.lookup gU = some ⟨aau,Zm,.func (PySem.W.fnOf "standing_at_first" "Inventory.standing_at_first" (ak jj) (aj jj) (ab jj) .none Mv OM JS Se Cv Qi),Wq⟩)
 (zO : PySem.W.codeIn K Cv "Inventory.standing_at_first" = true)
 (pG : PySem.W.keepIn K (.ref gU) = true)
 (EF : PySem.W.findIn K (.ref aG) "hear_ask" = some (some (.ref hJ)))
 (AI : PySem.W.isFn K (.ref hJ) = true)
 (yz : K.lookup hJ = some ⟨aaE,Zw,.func (PySem.W.fnOf "hear_ask" "Inventory.hear_ask" (ak ju) (aj ju) (ab ju) .none MF OW J2 Sr CH Qs),WB⟩)
 (zY : PySem.W.codeIn K CH "Inventory.hear_ask" = true)
 (pP : PySem.W.keepIn K (.ref hJ) = true)
 (EE : PySem.W.findIn K (.ref aG) "hear_can" = some (some (.ref hE)))
 (AH : PySem.W.isFn K (.ref hE) = true)
 (yy : K.lookup hE = some ⟨aaD,Zv,.func (PySem.W.fnOf "hear_can" "Inventory.hear_can" (ak jt) (aj jt) (ab jt) .none ME OV J1 So CG Qr),WA⟩)
 (zX : PySem.W.codeIn K CG "Inventory.hear_can" = true)
 (pO : PySem.W.keepIn K (.ref hE) = true)
 (EG : PySem.W.findIn K (.ref aG) "hear_ack" = some (some (.ref hU)))
 (AJ : PySem.W.isFn K (.ref hU) = true)
 (yA : K.lookup hU = some ⟨aaF,Zx,.func (PySem.W.fnOf "hear_ack" "Inventory.hear_ack" (ak jv) (aj jv) (ab jv) .none MG OX J3 Ss CI Qt),WC⟩)
 (zZ : PySem.W.codeIn K CI "Inventory.hear_ack" = true)
 (pQ : PySem.W.keepIn K (.ref hU) = true)
 (EH : PySem.W.findIn K (.ref aG) "hear" = some (some (.ref hW)))
 (AK : PySem.W.isFn K (.ref hW) = true)
 (yB : K.lookup hW = some ⟨aaG,Zy,.func (PySem.W.fnOf "hear" "Inventory.hear" (ak jw) (aj jw) (ab jw) .none MH OY J4 Su CJ Qu),WD⟩)
 (z0 : PySem.W.codeIn K CJ "Inventory.hear" = true)
 (pR : PySem.W.keepIn K (.ref hW) = true)
 (Ey : PySem.W.findIn K (.ref aG) "say_again" = some (some (.ref gY)))
 (Az : PySem.W.isFn K (.ref gY) = true)
 (yq : K.lookup gY = some ⟨aax,Zp,.func (PySem.W.fnOf "say_again" "Inventory.say_again" (ak jn) (aj jn) (ab jn) .none My OP JV Si Cz Ql),Wt⟩)
 (zR : PySem.W.codeIn K Cz "Inventory.say_again" = true)
 (pJ : PySem.W.keepIn K (.ref gY) = true)
 (Ef : PySem.W.findIn K (.ref aV) "__init__" = some (some (.ref gK)))
 (Al : PySem.W.isFn K (.ref gK) = true)
 (yd : K.lookup gK = some ⟨aak,Zc,.func (PySem.W.fnOf "__init__" "OwnSale.__init__" (ak i9) (aj i9) (ab i9) .none Ml OC JI RX Cj P6),We⟩)
 (zE : PySem.W.codeIn K Cj "OwnSale.__init__" = true)
 (vI : PySem.W.keepIn K (.ref gK) = true)
 (D8 : PySem.W.findIn K (.ref bw) "__init__" = some (some (.ref gF)))
 (Ag : PySem.W.isFn K (.ref gF) = true)
 (x6 : K.lookup gF = some ⟨aaf,Y7,.func (PySem.W.fnOf "__init__" "Resellers.__init__" (ak i4) (aj i4) (ab i4) .none Mf Ox JD RS Cd P0),V8⟩)
 (zz : PySem.W.codeIn K Cd "Resellers.__init__" = true)
 (vH : PySem.W.keepIn K (.ref gF) = true)
 (Ec : PySem.W.findIn K (.ref bw) "ask" = some (some (.ref gJ)))
 (Ak : PySem.W.isFn K (.ref gJ) = true)
 (yc : K.lookup gJ = some ⟨aaj,Zb,.func (PySem.W.fnOf "ask" "Resellers.ask" (ak i8) (aj i8) (ab i8) .none Mj OB JH RW Ci P5),Wc⟩)
 (zD : PySem.W.codeIn K Ci "Resellers.ask" = true)
 (px : PySem.W.keepIn K (.ref gJ) = true)
 (Eb : PySem.W.findIn K (.ref bw) "cancel" = some (some (.ref gI)))
 (Aj : PySem.W.isFn K (.ref gI) = true)
 (ya : K.lookup gI = some ⟨aai,Za,.func (PySem.W.fnOf "cancel" "Resellers.cancel" (ak i7) (aj i7) (ab i7) .none Mi OA JG RV Cg P4),Wb⟩)
 (zC : PySem.W.codeIn K Cg "Resellers.cancel" = true)
 (pw : PySem.W.keepIn K (.ref gI) = true)
 (D6 : PySem.W.findIn K (.ref bw) "sell" = some (some (.ref gD)))
 (Ae : PySem.W.isFn K (.ref gD) = true)
 (x4 : K.lookup gD = some ⟨aad,Y5,.func (PySem.W.fnOf "sell" "Resellers.sell" (ak gj) (aj gj) (ab gj) .none Md Ov JB RQ Cb PY),V6⟩)
 (zx : PySem.W.codeIn K Cb "Resellers.sell" = true)
 (ph : PySem.W.keepIn K (.ref gD) = true)
 (Ea : PySem.W.findIn K (.ref bw) "give_up" = some (some (.ref gH)))
 (Ai : PySem.W.isFn K (.ref gH) = true)
 (x9 : K.lookup gH = some ⟨aah,Y9,.func (PySem.W.fnOf "give_up" "Resellers.give_up" (ak i6) (aj i6) (ab i6) .none Mh Oz JF RU Cf P2),Wa⟩)
 (zB : PySem.W.codeIn K Cf "Resellers.give_up" = true)
 (pq : PySem.W.keepIn K (.ref gH) = true)
 (D9 : PySem.W.findIn K (.ref bw) "hear_st" = some (some (.ref gG)))
 (Ah : PySem.W.isFn K (.ref gG) = true)
 (x8 : K.lookup gG = some ⟨aag,Y8,.func (PySem.W.fnOf "hear_st" "Resellers.hear_st" (ak i5) (aj i5) (ab i5) .none Mg Oy JE RT Ce P1),V9⟩)
 (zA : PySem.W.codeIn K Ce "Resellers.hear_st" = true)
 (pk : PySem.W.keepIn K (.ref gG) = true)
 (D7 : PySem.W.findIn K (.ref bw) "say_again" = some (some (.ref gE)))
 (Af : PySem.W.isFn K (.ref gE) = true)
 (x5 : K.lookup gE = some ⟨aae,Y6,.func (PySem.W.fnOf "say_again" "Resellers.say_again" (ak i3) (aj i3) (ab i3) .none Me Ow JC RR Cc PZ),V7⟩)
 (zy : PySem.W.codeIn K Cc "Resellers.say_again" = true)
 (pj : PySem.W.keepIn K (.ref gE) = true)
 (D3 : PySem.W.nsIn K mainGlobals "bytes_of" = some (some (.ref j6)))
 (xW : K.lookup j6 = some ⟨Z9,Y1,.func (PySem.W.fnOf "bytes_of" "bytes_of" (ak gi) (aj gi) (ab gi) .none L9 Oo Jx RM B7 PR),V2⟩)
 (zt : PySem.W.codeIn K B7 "bytes_of" = true)
 (vD : PySem.W.keepIn K (.ref j6) = true)
 (Dy : PySem.W.nsIn K mainGlobals "written" = some (some (.ref jR)))
 (xn : K.lookup jR = some ⟨ZE,Yv,.func (PySem.W.fnOf "written" "written" (ak ip) (aj ip) (ab ip) .none LB NR IT Rg BB O9),Vv⟩)
 (yQ : PySem.W.codeIn K BB "written" = true)
 (uV : PySem.W.keepIn K (.ref jR) = true)
 (DG : PySem.W.nsIn K mainGlobals "pieces_of" = some (some (.ref jZ)))
 (xx : K.lookup jZ = some ⟨ZM,YD,.func (PySem.W.fnOf "pieces_of" "pieces_of" (ak iB) (aj iB) (ab iB) .none LK NZ Ja Ro BJ Pj),VD⟩)
 (yY : PySem.W.codeIn K BJ "pieces_of" = true)
 (u7 : PySem.W.keepIn K (.ref jZ) = true)
 (DE : PySem.W.nsIn K mainGlobals "read_number" = some (some (.ref jX)))
 (xu : K.lookup jX = some ⟨ZK,YB,.func (PySem.W.fnOf "read_number" "read_number" (ak iz) (aj iz) (ab iz) .none LI NX IZ Rm BH Pg),VB⟩)
 (yW : PySem.W.codeIn K BH "read_number" = true)
 (u5 : PySem.W.keepIn K (.ref jX) = true)
 (DF : PySem.W.nsIn K mainGlobals "read_letter" = some (some (.ref jY)))
 (xw : K.lookup jY = some ⟨ZL,YC,.func (PySem.W.fnOf "read_letter" "read_letter" (ak iA) (aj iA) (ab iA) .none LJ NY I0 Rn BI Ph),VC⟩)
 (yX : PySem.W.codeIn K BI "read_letter" = true)
 (u6 : PySem.W.keepIn K (.ref jY) = true)
 (DD : PySem.W.nsIn K mainGlobals "read_pieces" = some (some (.ref jW)))
 (xt : K.lookup jW = some ⟨ZJ,YA,.func (PySem.W.fnOf "read_pieces" "read_pieces" (ak iy) (aj iy) (ab iy) .none LH NW IY Rl BG Pf),VA⟩)
 (yV : PySem.W.codeIn K BG "read_pieces" = true)
 (u0 : PySem.W.keepIn K (.ref jW) = true)
 (DC : PySem.W.nsIn K mainGlobals "read_text" = some (some (.ref jV)))
 (xr : K.lookup jV = some ⟨ZI,Yz,.func (PySem.W.fnOf "read_text" "read_text" (ak iw) (aj iw) (ab iw) .none LG NV IX Rk BF Pe),Vz⟩)
 (yU : PySem.W.codeIn K BF "read_text" = true)
 (uZ : PySem.W.keepIn K (.ref jV) = true)
 (EL : PySem.W.findIn K (.ref aD) "__init__" = some (some (.ref ia)))
 (AN : PySem.W.isFn K (.ref ia) = true)
 (yE : K.lookup ia = some ⟨aaJ,ZC,.func (PySem.W.fnOf "__init__" "Houses.__init__" (ak jz) (aj jz) (ab jz) .none MK O1 J7 Sx CM Qx),WH⟩)
 (z9 : PySem.W.codeIn K CM "Houses.__init__" = true)
 (vM : PySem.W.keepIn K (.ref ia) = true)
 (DK : PySem.W.nsIn K mainGlobals "change_refused" = some (some (.ref j5)))
 (xC : K.lookup j5 = some ⟨ZQ,YH,.func (PySem.W.fnOf "change_refused" "change_refused" (ak iE) (aj iE) (ab iE) .none LO N3 Je Rt BN Po),VH⟩)
 (y3 : PySem.W.codeIn K BN "change_refused" = true)
 (vc : PySem.W.keepIn K (.ref j5) = true)
 (DX : PySem.W.nsIn K mainGlobals "call_flight" = some (some (.ref fR)))
 (xQ : K.lookup fR = some ⟨Z3,YV,.func (PySem.W.fnOf "call_flight" "call_flight" (ak iR) (aj iR) (ab iR) .none L3 Og Jr RG B1 PH),VW⟩)
 (zk : PySem.W.codeIn K B1 "call_flight" = true)
 (vx : PySem.W.keepIn K (.ref fR) = true)
 (D0 : PySem.W.nsIn K mainGlobals "call_cap" = some (some (.ref fU)))
 (xT : K.lookup fU = some ⟨Z6,YY,.func (PySem.W.fnOf "call_cap" "call_cap" (ak iU) (aj iU) (ab iU) .none L6 Oj Ju RJ B4 PM),VZ⟩)
 (zp : PySem.W.codeIn K B4 "call_cap" = true)
 (vA : PySem.W.keepIn K (.ref fU) = true)
 (DO : PySem.W.nsIn K mainGlobals "call_shut" = some (some (.ref fI)))
 (xG : K.lookup fI = some ⟨ZU,YL,.func (PySem.W.fnOf "call_shut" "call_shut" (ak iI) (aj iI) (ab iI) .none LS N7 Ji Rx BR Pt),VM⟩)
 (zb : PySem.W.codeIn K BR "call_shut" = true)
 (vg : PySem.W.keepIn K (.ref fI) = true)
 (DQ : PySem.W.nsIn K mainGlobals "call_sell" = some (some (.ref fK)))
 (xI : K.lookup fK = some ⟨ZW,YN,.func (PySem.W.fnOf "call_sell" "call_sell" (ak iK) (aj iK) (ab iK) .none LV N9 Jk Rz BU Pw),VO⟩)
 (zd : PySem.W.codeIn K BU "call_sell" = true)
 (vi : PySem.W.keepIn K (.ref fK) = true)
 (DW : PySem.W.nsIn K mainGlobals "call_give_up" = some (some (.ref fQ)))
 (xP : K.lookup fQ = some ⟨Z2,YU,.func (PySem.W.fnOf "call_give_up" "call_give_up" (ak iQ) (aj iQ) (ab iQ) .none L1 Of Jq RF B0 PF),VU⟩)
 (zj : PySem.W.codeIn K B0 "call_give_up" = true)
 (vv : PySem.W.keepIn K (.ref fQ) = true)
 (D4 : PySem.W.nsIn K mainGlobals "bring" = some (some (.ref j7)))
 (xX : K.lookup j7 = some ⟨aaa,Y2,.func (PySem.W.fnOf "bring" "bring" (ak iX) (aj iX) (ab iX) .none Ma Oq Jy RN B8 PU),V3⟩)
 (zu : PySem.W.codeIn K B8 "bring" = true)
 (vE : PySem.W.keepIn K (.ref j7) = true)
 (DZ : PySem.W.nsIn K mainGlobals "call_deliver" = some (some (.ref fT)))
 (xS : K.lookup fT = some ⟨Z5,YX,.func (PySem.W.fnOf "call_deliver" "call_deliver" (ak iT) (aj iT) (ab iT) .none L5 Oi Jt RI B3 PL),VY⟩)
 (zo : PySem.W.codeIn K B3 "call_deliver" = true)
 (vz : PySem.W.keepIn K (.ref fT) = true)
 (DU : PySem.W.nsIn K mainGlobals "call_lose" = some (some (.ref fO)))
 (xN : K.lookup fO = some ⟨Z0,YS,.func (PySem.W.fnOf "call_lose" "call_lose" (ak iO) (aj iO) (ab iO) .none LZ Od Jo RD BY PB),VS⟩)
 (zh : PySem.W.codeIn K BY "call_lose" = true)
 (vq : PySem.W.keepIn K (.ref fO) = true)
 (DY : PySem.W.nsIn K mainGlobals "call_double" = some (some (.ref fS)))
 (xR : K.lookup fS = some ⟨Z4,YW,.func (PySem.W.fnOf "call_double" "call_double" (ak iS) (aj iS) (ab iS) .none L4 Oh Js RH B2 PJ),VX⟩)
 (zm : PySem.W.codeIn K B2 "call_double" = true)
 (vy : PySem.W.keepIn K (.ref fS) = true)
 (DB : PySem.W.nsIn K mainGlobals "say_again" = some (some (.ref jU)))
 (xq : K.lookup jU = some ⟨ZH,Yy,.func (PySem.W.fnOf "say_again" "say_again" (ak iu) (aj iu) (ab iu) .none LF NU IW Rj BE Pd),Vy⟩)
 (yT : PySem.W.codeIn K BE "say_again" = true)
 (uY : PySem.W.keepIn K (.ref jU) = true)
 (D2 : PySem.W.nsIn K mainGlobals "call_again" = some (some (.ref fW)))
 (xV : K.lookup fW = some ⟨Z8,Y0,.func (PySem.W.fnOf "call_again" "call_again" (ak iW) (aj iW) (ab iW) .none L8 Om Jw RL B6 PQ),V1⟩)
 (zr : PySem.W.codeIn K B6 "call_again" = true)
 (vC : PySem.W.keepIn K (.ref fW) = true)
 (D1 : PySem.W.nsIn K mainGlobals "call_calm" = some (some (.ref fV)))
 (xU : K.lookup fV = some ⟨Z7,YZ,.func (PySem.W.fnOf "call_calm" "call_calm" (ak iV) (aj iV) (ab iV) .none L7 Ol Jv RK B5 PN),V0⟩)
 (zq : PySem.W.codeIn K B5 "call_calm" = true)
 (vB : PySem.W.keepIn K (.ref fV) = true)
 (DL : PySem.W.nsIn K mainGlobals "call_view" = some (some (.ref fF)))
 (xD : K.lookup fF = some ⟨ZR,YI,.func (PySem.W.fnOf "call_view" "call_view" (ak iF) (aj iF) (ab iF) .none LP N4 Jf Ru BO Pp),VI⟩)
 (y4 : PySem.W.codeIn K BO "call_view" = true)
 (vd : PySem.W.keepIn K (.ref fF) = true)
 (DM : PySem.W.nsIn K mainGlobals "call_truth" = some (some (.ref fG)))
 (xE : K.lookup fG = some ⟨ZS,YJ,.func (PySem.W.fnOf "call_truth" "call_truth" (ak iG) (aj iG) (ab iG) .none LQ N5 Jg Rv BP Pq),VJ⟩)
 (y9 : PySem.W.codeIn K BP "call_truth" = true)
 (ve : PySem.W.keepIn K (.ref fG) = true)
 (DR : PySem.W.nsIn K mainGlobals "call_seats" = some (some (.ref fL)))
 (xJ : K.lookup fL = some ⟨ZX,YO,.func (PySem.W.fnOf "call_seats" "call_seats" (ak iL) (aj iL) (ab iL) .none LW Oa Jl RA BV Px),VP⟩)
 (ze : PySem.W.codeIn K BV "call_seats" = true)
 (vj : PySem.W.keepIn K (.ref fL) = true)
 (DV : PySem.W.nsIn K mainGlobals "call_line" = some (some (.ref fP)))
 (xO : K.lookup fP = some ⟨Z1,YT,.func (PySem.W.fnOf "call_line" "call_line" (ak iP) (aj iP) (ab iP) .none L0 Oe Jp RE BZ PD),VT⟩)
 (zi : PySem.W.codeIn K BZ "call_line" = true)
 (vt : PySem.W.keepIn K (.ref fP) = true)
 (DT : PySem.W.nsIn K mainGlobals "call_net" = some (some (.ref fN)))
 (xM : K.lookup fN = some ⟨ZZ,YR,.func (PySem.W.fnOf "call_net" "call_net" (ak iN) (aj iN) (ab iN) .none LY Oc Jn RC BX Pz),VR⟩)
 (zg : PySem.W.codeIn K BX "call_net" = true)
 (vp : PySem.W.keepIn K (.ref fN) = true)
 (DN : PySem.W.nsIn K mainGlobals "call_text" = some (some (.ref fH)))
 (xF : K.lookup fH = some ⟨ZT,YK,.func (PySem.W.fnOf "call_text" "call_text" (ak iH) (aj iH) (ab iH) .none LR N6 Jh Rw BQ Pr),VL⟩)
 (za : PySem.W.codeIn K BQ "call_text" = true)
 (vf : PySem.W.keepIn K (.ref fH) = true)
 (DS : PySem.W.nsIn K mainGlobals "call_read" = some (some (.ref fM)))
 (xK : K.lookup fM = some ⟨ZY,YQ,.func (PySem.W.fnOf "call_read" "call_read" (ak iM) (aj iM) (ab iM) .none LX Ob Jm RB BW Py),VQ⟩)
 (zf : PySem.W.codeIn K BW "call_read" = true)
 (vm : PySem.W.keepIn K (.ref fM) = true)
 (DI : PySem.W.nsIn K mainGlobals "is_settled" = some (some (.ref j3)))
 (xA : K.lookup j3 = some ⟨ZO,YF,.func (PySem.W.fnOf "is_settled" "is_settled" (ak iC) (aj iC) (ab iC) .none LM N1 Jc Rq BL Pl),VF⟩)
 (y1 : PySem.W.codeIn K BL "is_settled" = true)
 (va : PySem.W.keepIn K (.ref j3) = true)
 (DP : PySem.W.nsIn K mainGlobals "call_settled" = some (some (.ref fJ)))
 (xH : K.lookup fJ = some ⟨ZV,YM,.func (PySem.W.fnOf "call_settled" "call_settled" (ak iJ) (aj iJ) (ab iJ) .none LU N8 Jj Ry BS Pu),VN⟩)
 (zc : PySem.W.codeIn K BS "call_settled" = true)
 (vh : PySem.W.keepIn K (.ref fJ) = true)
 (DA : PySem.W.nsIn K mainGlobals "taken_apart" = some (some (.ref jT)))
 (xp : K.lookup jT = some ⟨ZG,Yx,.func (PySem.W.fnOf "taken_apart" "taken_apart" (ak ir) (aj ir) (ab ir) .none LD NT IV Ri BD Pc),Vx⟩)
 (yS : PySem.W.codeIn K BD "taken_apart" = true)
 (uX : PySem.W.keepIn K (.ref jT) = true)
 (DH : PySem.W.nsIn K mainGlobals "is_text" = some (some (.ref j0)))
 (xy : K.lookup j0 = some ⟨ZN,YE,.func (PySem.W.fnOf "is_text" "is_text" (ak gh) (aj gh) (ab gh) .none LL N0 Jb Rp BK Pk),VE⟩)
 (yZ : PySem.W.codeIn K BK "is_text" = true)
 (u9 : PySem.W.keepIn K (.ref j0) = true)
 (Dz : PySem.W.nsIn K mainGlobals "within_ranges" = some (some (.ref jS)))
 (xo : K.lookup jS = some ⟨ZF,Yw,.func (PySem.W.fnOf "within_ranges" "within_ranges" (ak iq) (aj iq) (ab iq) .none LC NS IU Rh BC Pb),Vw⟩)
 (yR : PySem.W.codeIn K BC "within_ranges" = true)
 (uW : PySem.W.keepIn K (.ref jS) = true)
 (D5 : PySem.W.nsIn K mainGlobals "answer" = some (some (.ref j8)))
 (xZ : K.lookup j8 = some ⟨aac,Y4,.func (PySem.W.fnOf "answer" "answer" (ak iZ) (aj iZ) (ab iZ) .none Mc Ou JA RP Ca PX),V5⟩)
 (zw : PySem.W.codeIn K Ca "answer" = true)
 (vG : PySem.W.keepIn K (.ref j8) = true)
 (sL : PySem.W.nsIn K mainGlobals "answers" = some (some (.ref fX)))
 (xY : K.lookup fX = some ⟨aab,Y3,.func (PySem.W.fnOf "answers" "answers" (ak iY) (aj iY) (ab iY) .none Mb Ot Jz RO B9 PV),V4⟩)
 (zv : PySem.W.codeIn K B9 "answers" = true)
 (vF : PySem.W.keepIn K (.ref fX) = true)
 (uN : PySem.W.plainGet K a5 Str.empty = true)
 (A3 : PySem.W.hasDictIn K a5 = true)
 (uF : PySem.W.plainOver K a5 = true)
 (mf : PySem.W.makesIn K a5 = true)
 (yL : PySem.W.keepIn K (.ref a5) = true)
 (um : PySem.W.findIn K (.ref a5) "__setattr__" = some (some (.builtin "object.__setattr__")))
 (wB : PySem.W.findIn K (.ref a5) "messages" = some none)
 (wA : PySem.W.findIn K (.ref a5) "sent" = some none)
 (uR : PySem.W.plainGet K bS Str.empty = true)
 (A7 : PySem.W.hasDictIn K bS = true)
 (uJ : PySem.W.plainOver K bS = true)
 (ml : PySem.W.makesIn K bS = true)
 (yP : PySem.W.keepIn K (.ref bS) = true)
 (uu : PySem.W.findIn K (.ref bS) "__setattr__" = some (some (.builtin "object.__setattr__")))
 (wU : PySem.W.findIn K (.ref bS) "cap" = some none)
 (wR : PySem.W.findIn K (.ref bS) "shut" = some none)
 (uO : PySem.W.plainGet K aP Str.empty = true)
 (A4 : PySem.W.hasDictIn K aP = true)
 (uG : PySem.W.plainOver K aP = true)
 (mh : PySem.W.makesIn K aP = true)
 (yM : PySem.W.keepIn K (.ref aP) = true)
 (uo : PySem.W.findIn K (.ref aP) "__setattr__" = some (some (.builtin "object.__setattr__")))
 (wG : PySem.W.findIn K (.ref aP) "r" = some none)
 (wH : PySem.W.findIn K (.ref aP) "no" = some none)
 (wJ : PySem.W.findIn K (.ref aP) "f" = some none)
 (wF : PySem.W.findIn K (.ref aP) "seats" = some none)
 (wD : PySem.W.findIn K (.ref aP) "stands" = some none)
 (wC : PySem.W.findIn K (.ref aP) "version" = some none)
 (wI : PySem.W.findIn K (.ref aP) "known" = some none)
 (uP : PySem.W.plainGet K aG Str.empty = true)
 (A5 : PySem.W.hasDictIn K aG = true)
 (uH : PySem.W.plainOver K aG = true)
 (mi : PySem.W.makesIn K aG = true)
 (yN : PySem.W.keepIn K (.ref aG) = true)
 (uq : PySem.W.findIn K (.ref aG) "__setattr__" = some (some (.builtin "object.__setattr__")))
 (wK : PySem.W.findIn K (.ref aG) "net" = some none)
 (wM : PySem.W.findIn K (.ref aG) "flights" = some none)
 (wL : PySem.W.findIn K (.ref aG) "kept" = some none)
 (uM : PySem.W.plainGet K aV Str.empty = true)
 (A2 : PySem.W.hasDictIn K aV = true)
 (uE : PySem.W.plainOver K aV = true)
 (me : PySem.W.makesIn K aV = true)
 (yK : PySem.W.keepIn K (.ref aV) = true)
 (uk : PySem.W.findIn K (.ref aV) "__setattr__" = some (some (.builtin "object.__setattr__")))
 (wx : PySem.W.findIn K (.ref aV) "r" = some none)
 (wy : PySem.W.findIn K (.ref aV) "no" = some none)
 (wz : PySem.W.findIn K (.ref aV) "f" = some none)
 (wu : PySem.W.findIn K (.ref aV) "seats" = some none)
 (wm : PySem.W.findIn K (.ref aV) "unwanted" = some none)
 (wq : PySem.W.findIn K (.ref aV) "seen" = some none)
 (wo : PySem.W.findIn K (.ref aV) "stood" = some none)
 (uL : PySem.W.plainGet K bw Str.empty = true)
 (A1 : PySem.W.hasDictIn K bw = true)
 (uD : PySem.W.plainOver K bw = true)
 (md : PySem.W.makesIn K bw = true)
 (yJ : PySem.W.keepIn K (.ref bw) = true)
 (uj : PySem.W.findIn K (.ref bw) "__setattr__" = some (some (.builtin "object.__setattr__")))
 (wj : PySem.W.findIn K (.ref bw) "net" = some none)
 (wg : PySem.W.findIn K (.ref bw) "sales" = some none)
 (uQ : PySem.W.plainGet K aD Str.empty = true)
 (A6 : PySem.W.hasDictIn K aD = true)
 (uI : PySem.W.plainOver K aD = true)
 (mj : PySem.W.makesIn K aD = true)
 (yO : PySem.W.keepIn K (.ref aD) = true)
 (ur : PySem.W.findIn K (.ref aD) "__setattr__" = some (some (.builtin "object.__setattr__")))
 (wO : PySem.W.findIn K (.ref aD) "net" = some none)
 (wQ : PySem.W.findIn K (.ref aD) "inventory" = some none)
 (wN : PySem.W.findIn K (.ref aD) "resellers" = some none)
 (Dm : PySem.W.nsIn K mainGlobals "ASK" = some (some (.int 0 GL)))
 (Dj : PySem.W.nsIn K mainGlobals "CAN" = some (some (.int 1 GJ)))
 (CV : PySem.W.nsIn K mainGlobals "ST" = some (some (.int 2 Gq)))
 (Dq : PySem.W.nsIn K mainGlobals "ACK" = some (some (.int 3 GN)))
 (CT : PySem.W.nsIn K mainGlobals "UNSEEN" = some (some (.int 0 Gn)))
 (De : PySem.W.nsIn K mainGlobals "HELD" = some (some (.int 1 GD)))
 (CS : PySem.W.nsIn K mainGlobals "WAITING" = some (some (.int 2 Gm)))
 (CY : PySem.W.nsIn K mainGlobals "REFUSED" = some (some (.int 3 Gr)))
 (Dg : PySem.W.nsIn K mainGlobals "GIVEN_UP" = some (some (.int 4 GG)))
 (CQ : PySem.W.nsIn K mainGlobals "WITHDRAWN" = some (some (.int 5 Gk)))
 (C8 : PySem.W.nsIn K mainGlobals "MOST_WAITING" = some (some (.int 6 Gz)))
 (Dl : PySem.W.nsIn K mainGlobals "BLANK" = some (some (.int 32 GK)))
 (CP : PySem.W.nsIn K mainGlobals "ZERO" = some (some (.int 48 Gj)))
 (C4 : PySem.W.nsIn K mainGlobals "NO_SUCH_FLIGHT" = some (some (.int (-3) Gw)))
 (C3 : PySem.W.nsIn K mainGlobals "NO_SUCH_SALE_OR_MESSAGE" = some (some (.int (-4) Gv)))
 (CU : PySem.W.nsIn K mainGlobals "THERE_ALREADY" = some (some (.int (-5) Gp)))
 (Dh : PySem.W.nsIn K mainGlobals "FULL" = some (some (.int (-6) GI)))
 (C6 : PySem.W.nsIn K mainGlobals "NOT_AS_IT_MUST_BE" = some (some (.int (-7) Gy)))
 (C5 : PySem.W.nsIn K mainGlobals "NO_MESSAGES_TEXT" = some (some (.int (-8) Gx)))
 (Dc : PySem.W.nsIn K mainGlobals "MOST_FLIGHTS" = some (some (.int 12 GB)))
 (C9 : PySem.W.nsIn K mainGlobals "MOST_SALES" = some (some (.int 40 GA)))
 (Di : PySem.W.nsIn K mainGlobals "FULL_NET" = some (some (.int 200 GH)))
 (C2 : PySem.W.nsIn K mainGlobals "OUT_OF_RANGE" = some (some (.int (-2) Gu)))
 (CZ : PySem.W.nsIn K mainGlobals "READ" = some (some (.int 16 Gs)))
 (Dd : PySem.W.nsIn K mainGlobals "LONGEST_TEXT" = some (some (.int 100 GC)))
 (Df : PySem.W.nsIn K mainGlobals "GREATEST_BYTE" = some (some (.int 255 GF)))
 (wb : PySem.W.nsIn K mainGlobals "all" = some none)
 (wa : PySem.W.nsIn K mainGlobals "enumerate" = some none)
 (v9 : PySem.W.nsIn K mainGlobals "len" = some none)
 (v8 : PySem.W.nsIn K mainGlobals "list" = some none)
 (v7 : PySem.W.nsIn K mainGlobals "ord" = some none)
 (vZ : PySem.W.nsIn K mainGlobals "reversed" = some none)
 (vY : PySem.W.nsIn K mainGlobals "str" = some none)
 (vX : PySem.W.nsIn K mainGlobals "sum" = some none)
 (vW : PySem.W.nsIn K mainGlobals "zip" = some none)
 (ER : PySem.W.nsIn K mainGlobals "FORMS" = some (some (.ref dv)))
 (mO : cy K 2 (.ref dv) O6 = true)
 (En : PySem.W.nsIn K mainGlobals "LETTERS" = some (some (.ref du)))
 (mN : cy K 1 (.ref du) O5 = true)
 (Ee : PySem.W.nsIn K mainGlobals "RANGES" = some (some (.ref dD)))
 (mM : cy K 3 (.ref dD) Bv = true)
 (ES : PySem.W.nsIn K mainGlobals "CALLS" = some (some (.ref eS)))
 (yG : K.lookup eS = some ⟨.type "tuple",ddC,.seq #[.ref fR,.ref fU,.ref fI,.ref fK,.ref fQ,.ref fT,.ref fO,.ref fS,.ref fW,.ref fV,.ref fF,.ref fG,.ref fL,.ref fP,.ref fN,.ref fH,.ref fM,.ref fJ] nC,slC⟩)
 (ET : PySem.W.nsIn K mainGlobals "BOUNDS" = some (some (.ref dE)))
 (yH : K.lookup dE = some ⟨.type "dict",none,.dict esB nB,#[]⟩)
 (tT : PySem.W.KeysLit w.params esB.toList)
 (tS : Paired (fun (p : Str × V) (e : DictEntry) => (∃ t,e.key = .str p.1 t) ∧ RelV p.2 e.val) [("r",.ref kU),("no",.ref kW),("flight",.ref kX),("seats",.ref kT),("version",.ref kS)] esB.toList)
 (uv : (dE == sysModules) = false)
 (Bs : cy K 1 (.ref kU) (.t [.i 0,.i 3]) = true)
 (Bt : cy K 1 (.ref kW) (.t [.i 1,.i 999]) = true)
 (Bu : cy K 1 (.ref kX) (.t [.i 1,.i 9999]) = true)
 (Br : cy K 1 (.ref kT) (.t [.i 1,.i 9]) = true)
 (Bq : cy K 1 (.ref kS) (.t [.i 1,.i 999999]) = true)
 : ∃ fd : FuncData,(∀ (s : Shared) (us : List Value),us.length = (["calls"] : List Str).length → BindsTo s fd ⟨us,[]⟩ ((["calls"] : List Str).zip us)) ∧ ∀ base : Heap,K.In base → base.Ns mainGlobals mg → aE P w K mg base aQ lv fa fd ["calls"] sp:=by
 obtain ⟨A,T,e⟩ : ∃ A : Ad,Txt w.params K mg A ∧ A.fX = fa:=by
  refine ⟨{
   a5:=a5
   bS:=bS
   aP:=aP
   aG:=aG
   aV:=aV
   bw:=bw
   aD:=aD
   gO:=gO
   rK:=PySem.W.fnOf "__init__" "Net.__init__" (ak jd) (aj jd) (ab jd) .none Mp OG JM R7 Co Qa
   gN:=gN
   rJ:=PySem.W.fnOf "send" "Net.send" (ak jc) (aj jc) (ab jc) .none Mo OF JL R6 Cn P9
   gP:=gP
   rL:=PySem.W.fnOf "has" "Net.has" (ak je) (aj je) (ab je) .none Mq OH JN R8 Cp Qb
   gM:=gM
   rH:=PySem.W.fnOf "take" "Net.take" (ak jb) (aj jb) (ab jb) .none Mn OE JK RZ Cm P8
   gL:=gL
   rG:=PySem.W.fnOf "take_all" "Net.take_all" (ak ja) (aj ja) (ab ja) .none Mm OD JJ RY Ck P7
   j4:=j4
   qQ:=PySem.W.fnOf "is_final" "is_final" (ak iD) (aj iD) (ab iD) .none LN N2 Jd Rr BM Pn
   ib:=ib
   sh:=PySem.W.fnOf "__init__" "Flight.__init__" (ak jA) (aj jA) (ab jA) .none ML O2 J8 Sy CN Qy
   gQ:=gQ
   rM:=PySem.W.fnOf "__init__" "KeptSale.__init__" (ak jf) (aj jf) (ab jf) .none Mr OI JO R9 Cq Qc
   g9:=g9
   rY:=PySem.W.fnOf "__init__" "Inventory.__init__" (ak jr) (aj jr) (ab jr) .none MC OT JZ Sm CD Qp
   gZ:=gZ
   rV:=PySem.W.fnOf "sales_that" "Inventory.sales_that" (ak gk) (aj gk) (ab gk) .none Mz OQ JW Sj CA Qm
   hC:=hC
   rZ:=PySem.W.fnOf "held_on" "Inventory.held_on" (ak gm) (aj gm) (ab gm) .none MD OU J0 Sn CF Qq
   gX:=gX
   rS:=PySem.W.fnOf "sells" "Inventory.sells" (ak jm) (aj jm) (ab jm) .none Mx OO JU Sg Cy Qk
   g0:=g0
   rW:=PySem.W.fnOf "room" "Inventory.room" (ak jo) (aj jo) (ab jo) .none MA OR JX Sk CB Qn
   gS:=gS
   rO:=PySem.W.fnOf "tell" "Inventory.tell" (ak jh) (aj jh) (ab jh) .none Mt OK JQ Sb Ct Qg
   g6:=g6
   rX:=PySem.W.fnOf "keep" "Inventory.keep" (ak jq) (aj jq) (ab jq) .none MB OS JY Sl CC Qo
   gR:=gR
   rN:=PySem.W.fnOf "turn" "Inventory.turn" (ak jg) (aj jg) (ab jg) .none Ms OJ JP Sa Cr Qe
   hX:=hX
   r9:=PySem.W.fnOf "clear_flight" "Inventory.clear_flight" (ak jx) (aj jx) (ab jx) .none MI OZ J5 Sv CK Qv
   gT:=gT
   rP:=PySem.W.fnOf "take_back" "Inventory.take_back" (ak ji) (aj ji) (ab ji) .none Mu OL JR Sd Cu Qh
   hZ:=hZ
   sf:=PySem.W.fnOf "change_cap" "Inventory.change_cap" (ak jy) (aj jy) (ab jy) .none MJ O0 J6 Sw CL Qw
   gW:=gW
   rR:=PySem.W.fnOf "shut_flight" "Inventory.shut_flight" (ak jk) (aj jk) (ab jk) .none Mw ON JT Sf Cw Qj
   gU:=gU
   rQ:=PySem.W.fnOf "standing_at_first" "Inventory.standing_at_first" (ak jj) (aj jj) (ab jj) .none Mv OM JS Se Cv Qi
   hJ:=hJ
   r4:=PySem.W.fnOf "hear_ask" "Inventory.hear_ask" (ak ju) (aj ju) (ab ju) .none MF OW J2 Sr CH Qs
   hE:=hE
   r0:=PySem.W.fnOf "hear_can" "Inventory.hear_can" (ak jt) (aj jt) (ab jt) .none ME OV J1 So CG Qr
   hU:=hU
   r6:=PySem.W.fnOf "hear_ack" "Inventory.hear_ack" (ak jv) (aj jv) (ab jv) .none MG OX J3 Ss CI Qt
   hW:=hW
   r8:=PySem.W.fnOf "hear" "Inventory.hear" (ak jw) (aj jw) (ab jw) .none MH OY J4 Su CJ Qu
   gY:=gY
   rT:=PySem.W.fnOf "say_again" "Inventory.say_again" (ak jn) (aj jn) (ab jn) .none My OP JV Si Cz Ql
   gK:=gK
   rF:=PySem.W.fnOf "__init__" "OwnSale.__init__" (ak i9) (aj i9) (ab i9) .none Ml OC JI RX Cj P6
   gF:=gF
   rA:=PySem.W.fnOf "__init__" "Resellers.__init__" (ak i4) (aj i4) (ab i4) .none Mf Ox JD RS Cd P0
   gJ:=gJ
   rE:=PySem.W.fnOf "ask" "Resellers.ask" (ak i8) (aj i8) (ab i8) .none Mj OB JH RW Ci P5
   gI:=gI
   rD:=PySem.W.fnOf "cancel" "Resellers.cancel" (ak i7) (aj i7) (ab i7) .none Mi OA JG RV Cg P4
   gD:=gD
   rq:=PySem.W.fnOf "sell" "Resellers.sell" (ak gj) (aj gj) (ab gj) .none Md Ov JB RQ Cb PY
   gH:=gH
   rC:=PySem.W.fnOf "give_up" "Resellers.give_up" (ak i6) (aj i6) (ab i6) .none Mh Oz JF RU Cf P2
   gG:=gG
   rB:=PySem.W.fnOf "hear_st" "Resellers.hear_st" (ak i5) (aj i5) (ab i5) .none Mg Oy JE RT Ce P1
   gE:=gE
   rz:=PySem.W.fnOf "say_again" "Resellers.say_again" (ak i3) (aj i3) (ab i3) .none Me Ow JC RR Cc PZ
   j6:=j6
   rn:=PySem.W.fnOf "bytes_of" "bytes_of" (ak gi) (aj gi) (ab gi) .none L9 Oo Jx RM B7 PR
   jR:=jR
   qF:=PySem.W.fnOf "written" "written" (ak ip) (aj ip) (ab ip) .none LB NR IT Rg BB O9
   jZ:=jZ
   qN:=PySem.W.fnOf "pieces_of" "pieces_of" (ak iB) (aj iB) (ab iB) .none LK NZ Ja Ro BJ Pj
   jX:=jX
   qL:=PySem.W.fnOf "read_number" "read_number" (ak iz) (aj iz) (ab iz) .none LI NX IZ Rm BH Pg
   jY:=jY
   qM:=PySem.W.fnOf "read_letter" "read_letter" (ak iA) (aj iA) (ab iA) .none LJ NY I0 Rn BI Ph
   jW:=jW
   qK:=PySem.W.fnOf "read_pieces" "read_pieces" (ak iy) (aj iy) (ab iy) .none LH NW IY Rl BG Pf
   jV:=jV
   qJ:=PySem.W.fnOf "read_text" "read_text" (ak iw) (aj iw) (ab iw) .none LG NV IX Rk BF Pe
   ia:=ia
   sg:=PySem.W.fnOf "__init__" "Houses.__init__" (ak jz) (aj jz) (ab jz) .none MK O1 J7 Sx CM Qx
   j5:=j5
   qR:=PySem.W.fnOf "change_refused" "change_refused" (ak iE) (aj iE) (ab iE) .none LO N3 Je Rt BN Po
   fR:=fR
   rf:=PySem.W.fnOf "call_flight" "call_flight" (ak iR) (aj iR) (ab iR) .none L3 Og Jr RG B1 PH
   fU:=fU
   rk:=PySem.W.fnOf "call_cap" "call_cap" (ak iU) (aj iU) (ab iU) .none L6 Oj Ju RJ B4 PM
   fI:=fI
   qV:=PySem.W.fnOf "call_shut" "call_shut" (ak iI) (aj iI) (ab iI) .none LS N7 Ji Rx BR Pt
   fK:=fK
   qX:=PySem.W.fnOf "call_sell" "call_sell" (ak iK) (aj iK) (ab iK) .none LV N9 Jk Rz BU Pw
   fQ:=fQ
   rb:=PySem.W.fnOf "call_give_up" "call_give_up" (ak iQ) (aj iQ) (ab iQ) .none L1 Of Jq RF B0 PF
   j7:=j7
   ro:=PySem.W.fnOf "bring" "bring" (ak iX) (aj iX) (ab iX) .none Ma Oq Jy RN B8 PU
   fT:=fT
   rj:=PySem.W.fnOf "call_deliver" "call_deliver" (ak iT) (aj iT) (ab iT) .none L5 Oi Jt RI B3 PL
   fO:=fO
   q4:=PySem.W.fnOf "call_lose" "call_lose" (ak iO) (aj iO) (ab iO) .none LZ Od Jo RD BY PB
   fS:=fS
   rh:=PySem.W.fnOf "call_double" "call_double" (ak iS) (aj iS) (ab iS) .none L4 Oh Js RH B2 PJ
   jU:=jU
   qI:=PySem.W.fnOf "say_again" "say_again" (ak iu) (aj iu) (ab iu) .none LF NU IW Rj BE Pd
   fW:=fW
   rm:=PySem.W.fnOf "call_again" "call_again" (ak iW) (aj iW) (ab iW) .none L8 Om Jw RL B6 PQ
   fV:=fV
   rl:=PySem.W.fnOf "call_calm" "call_calm" (ak iV) (aj iV) (ab iV) .none L7 Ol Jv RK B5 PN
   fF:=fF
   qS:=PySem.W.fnOf "call_view" "call_view" (ak iF) (aj iF) (ab iF) .none LP N4 Jf Ru BO Pp
   fG:=fG
   qT:=PySem.W.fnOf "call_truth" "call_truth" (ak iG) (aj iG) (ab iG) .none LQ N5 Jg Rv BP Pq
   fL:=fL
   qY:=PySem.W.fnOf "call_seats" "call_seats" (ak iL) (aj iL) (ab iL) .none LW Oa Jl RA BV Px
   fP:=fP
   q5:=PySem.W.fnOf "call_line" "call_line" (ak iP) (aj iP) (ab iP) .none L0 Oe Jp RE BZ PD
   fN:=fN
   q0:=PySem.W.fnOf "call_net" "call_net" (ak iN) (aj iN) (ab iN) .none LY Oc Jn RC BX Pz
   fH:=fH
   qU:=PySem.W.fnOf "call_text" "call_text" (ak iH) (aj iH) (ab iH) .none LR N6 Jh Rw BQ Pr
   fM:=fM
   qZ:=PySem.W.fnOf "call_read" "call_read" (ak iM) (aj iM) (ab iM) .none LX Ob Jm RB BW Py
   j3:=j3
   qP:=PySem.W.fnOf "is_settled" "is_settled" (ak iC) (aj iC) (ab iC) .none LM N1 Jc Rq BL Pl
   fJ:=fJ
   qW:=PySem.W.fnOf "call_settled" "call_settled" (ak iJ) (aj iJ) (ab iJ) .none LU N8 Jj Ry BS Pu
   jT:=jT
   qH:=PySem.W.fnOf "taken_apart" "taken_apart" (ak ir) (aj ir) (ab ir) .none LD NT IV Ri BD Pc
   j0:=j0
   qO:=PySem.W.fnOf "is_text" "is_text" (ak gh) (aj gh) (ab gh) .none LL N0 Jb Rp BK Pk
   jS:=jS
   qG:=PySem.W.fnOf "within_ranges" "within_ranges" (ak iq) (aj iq) (ab iq) .none LC NS IU Rh BC Pb
   j8:=j8
   rp:=PySem.W.fnOf "answer" "answer" (ak iZ) (aj iZ) (ab iZ) .none Mc Ou JA RP Ca PX
   fX:=fX
   n4:=PySem.W.fnOf "answers" "answers" (ak iY) (aj iY) (ab iY) .none Mb Ot Jz RO B9 PV
   dv:=dv
   du:=du
   dD:=dD
   eS:=eS
   dE:=dE
   kU:=kU
   kW:=kW
   kX:=kX
   kT:=kT
   kS:=kS },?_,?_⟩
  ·exact {
    dv:=PySem.W.mg_of X G ER
    mO:=oT mO
    du:=PySem.W.mg_of X G En
    mN:=oT mN
    dD:=PySem.W.mg_of X G Ee
    mM:=oT mM
    eS:=PySem.W.mg_of X G ES
    O4:=fun H => .inr ⟨_,_,nC,yG,rfl,rfl,by show 18 ≤ sizeLine; decide,.cons rfl (.cons rfl (.cons rfl (.cons rfl (.cons rfl (.cons rfl (.cons rfl (.cons rfl (.cons rfl (.cons rfl (.cons rfl (.cons rfl (.cons rfl (.cons rfl (.cons rfl (.cons rfl (.cons rfl (.cons rfl (.nil))))))))))))))))))⟩
    dE:=PySem.W.mg_of X G ET
    oU:=⟨⟨esB,nB,yH,tT,tS⟩,uv⟩
    Q0:=ni Bs
    Q1:=ni Bt
    Q2:=ni Bu
    QY:=ni Br
    QX:=ni Bq
    bW:=⟨uN,A3,uF,um⟩
    fz:=wB
    eP:=wA
    mf:=⟨mf,Ek,Ap,yL⟩
    Nj:=PySem.W.mg_of X G Em
    fY:=⟨uR,A7,uJ,uu⟩
    l8:=wU
    l7:=wR
    ml:=⟨ml,EN,AO,yP⟩
    Nn:=PySem.W.mg_of X G EO
    bM:=⟨uO,A4,uG,uo⟩
    p9:=wG
    qb:=wH
    nQ:=wJ
    nP:=wF
    gy:=wD
    gx:=wC
    lp:=wI
    mh:=⟨mh,Eo,Ar,yM⟩
    Nk:=PySem.W.mg_of X G Ep
    bb:=⟨uP,A5,uH,uq⟩
    wc:=wK
    eC:=wM
    fA:=wL
    mi:=⟨mi,EC,AF,yN⟩
    Nl:=PySem.W.mg_of X G EK
    bP:=⟨uM,A2,uE,uk⟩
    nN:=wx
    p7:=wy
    nO:=wz
    nM:=wu
    lh:=wm
    gw:=wq
    lj:=wo
    me:=⟨me,Ef,Al,yK⟩
    Ni:=PySem.W.mg_of X G Eg
    cF:=⟨uL,A1,uD,uj⟩
    l6:=wj
    gv:=wg
    md:=⟨md,D8,Ag,yJ⟩
    Nh:=PySem.W.mg_of X G Ed
    br:=⟨uQ,A6,uI,ur⟩
    cA:=wO
    dq:=wQ
    gz:=wN
    mj:=⟨mj,EL,AN,yO⟩
    Nm:=PySem.W.mg_of X G EM
    Fp:=a3 (st:=jd) yh zI vJ
    Fo:=a3 (st:=jc) yg zH pB
    mm:=⟨Ej,Ao,pB⟩
    Fq:=a3 (st:=je) yi zJ pC
    mn:=⟨El,Aq,pC⟩
    Fn:=a3 (st:=jb) yf zG pA
    w4:=⟨Ei,An,pA⟩
    Fm:=a3 (st:=ja) ye zF pz
    Le:=⟨Eh,Am,pz⟩
    kZ:=a3 (st:=iD) xB y2 vb
    mK:=PySem.W.mg_of X G DJ
    FO:=a3 (st:=jA) yF Aa vN
    Fs:=a3 (st:=jf) yj zK vK
    FE:=a3 (st:=jr) yw zV vL
    FA:=a3 (st:=gk) yr zS pK
    mr:=⟨Ez,AB,pK⟩
    FF:=a3 (st:=gm) yx zW pN
    qg:=⟨ED,AG,pN⟩
    Fy:=a3 (st:=jm) yp zQ pI
    w6:=⟨Ex,Ay,pI⟩
    FC:=a3 (st:=jo) yt zT pL
    w8:=⟨EA,AD,pL⟩
    Fu:=a3 (st:=jh) yl zM pE
    mq:=⟨Es,Au,pE⟩
    FD:=a3 (st:=jq) yu zU pM
    w9:=⟨EB,AE,pM⟩
    Ft:=a3 (st:=jg) yk zL pD
    nR:=⟨Er,As,pD⟩
    FK:=a3 (st:=jx) yC z6 pS
    xa:=⟨EI,AL,pS⟩
    Fv:=a3 (st:=ji) ym zN pF
    Lf:=⟨Et,Av,pF⟩
    FL:=a3 (st:=jy) yD z7 pT
    Ln:=⟨EJ,AM,pT⟩
    Fx:=a3 (st:=jk) yo zP pH
    Lh:=⟨Ew,Ax,pH⟩
    Fw:=a3 (st:=jj) yn zO pG
    Lg:=⟨Eu,Aw,pG⟩
    FH:=a3 (st:=ju) yz zY pP
    Lk:=⟨EF,AI,pP⟩
    FG:=a3 (st:=jt) yy zX pO
    Lj:=⟨EE,AH,pO⟩
    FI:=a3 (st:=jv) yA zZ pQ
    Ll:=⟨EG,AJ,pQ⟩
    FJ:=a3 (st:=jw) yB z0 pR
    Lm:=⟨EH,AK,pR⟩
    Fz:=a3 (st:=jn) yq zR pJ
    Li:=⟨Ey,Az,pJ⟩
    Fl:=a3 (st:=i9) yd zE vI
    Ff:=a3 (st:=i4) x6 zz vH
    Fj:=a3 (st:=i8) yc zD px
    wZ:=⟨Ec,Ak,px⟩
    Fi:=a3 (st:=i7) ya zC pw
    wY:=⟨Eb,Aj,pw⟩
    Fd:=a3 (st:=gj) x4 zx ph
    La:=⟨D6,Ae,ph⟩
    Fh:=a3 (st:=i6) x9 zB pq
    Ld:=⟨Ea,Ai,pq⟩
    Fg:=a3 (st:=i5) x8 zA pk
    Lc:=⟨D9,Ah,pk⟩
    Fe:=a3 (st:=i3) x5 zy pj
    Lb:=⟨D7,Af,pj⟩
    lO:=a3 (st:=gi) xW zt vD
    nV:=PySem.W.mg_of X G D3
    sR:=a3 (st:=ip) xn yQ uV
    M5:=PySem.W.mg_of X G Dy
    sY:=a3 (st:=iB) xx yY u7
    Nc:=PySem.W.mg_of X G DG
    sW:=a3 (st:=iz) xu yW u5
    Na:=PySem.W.mg_of X G DE
    sX:=a3 (st:=iA) xw yX u6
    Nb:=PySem.W.mg_of X G DF
    sV:=a3 (st:=iy) xt yV u0
    M9:=PySem.W.mg_of X G DD
    sU:=a3 (st:=iw) xr yU uZ
    M8:=PySem.W.mg_of X G DC
    FN:=a3 (st:=jz) yE z9 vM
    oI:=a3 (st:=iE) xC y3 vc
    Bc:=PySem.W.mg_of X G DK
    tK:=a3 (st:=iR) xQ zk vx
    acM:=PySem.W.mg_of X G DX
    tN:=a3 (st:=iU) xT zp vA
    acP:=PySem.W.mg_of X G D0
    tu:=a3 (st:=iI) xG zb vg
    acD:=PySem.W.mg_of X G DO
    tD:=a3 (st:=iK) xI zd vi
    acF:=PySem.W.mg_of X G DQ
    tJ:=a3 (st:=iQ) xP zj vv
    acL:=PySem.W.mg_of X G DW
    oJ:=a3 (st:=iX) xX zu vE
    Bd:=PySem.W.mg_of X G D4
    tM:=a3 (st:=iT) xS zo vz
    acO:=PySem.W.mg_of X G DZ
    tH:=a3 (st:=iO) xN zh vq
    acJ:=PySem.W.mg_of X G DU
    tL:=a3 (st:=iS) xR zm vy
    acN:=PySem.W.mg_of X G DY
    oH:=a3 (st:=iu) xq yT uY
    Bb:=PySem.W.mg_of X G DB
    tP:=a3 (st:=iW) xV zr vC
    acR:=PySem.W.mg_of X G D2
    tO:=a3 (st:=iV) xU zq vB
    acQ:=PySem.W.mg_of X G D1
    tm:=a3 (st:=iF) xD y4 vd
    acA:=PySem.W.mg_of X G DL
    tp:=a3 (st:=iG) xE y9 ve
    acB:=PySem.W.mg_of X G DM
    tE:=a3 (st:=iL) xJ ze vj
    acG:=PySem.W.mg_of X G DR
    tI:=a3 (st:=iP) xO zi vt
    acK:=PySem.W.mg_of X G DV
    tG:=a3 (st:=iN) xM zg vp
    acI:=PySem.W.mg_of X G DT
    tq:=a3 (st:=iH) xF za vf
    acC:=PySem.W.mg_of X G DN
    tF:=a3 (st:=iM) xK zf vm
    acH:=PySem.W.mg_of X G DS
    tj:=a3 (st:=iC) xA y1 va
    Nf:=PySem.W.mg_of X G DI
    tw:=a3 (st:=iJ) xH zc vh
    acE:=PySem.W.mg_of X G DP
    sT:=a3 (st:=ir) xp yS uX
    M7:=PySem.W.mg_of X G DA
    sZ:=a3 (st:=gh) xy yZ u9
    Nd:=PySem.W.mg_of X G DH
    sS:=a3 (st:=iq) xo yR uW
    M6:=PySem.W.mg_of X G Dz
    tQ:=a3 (st:=iZ) xZ zw vG
    Ng:=PySem.W.mg_of X G D5
    Fc:=a3 (st:=iY) xY zv vF
    acS:=PySem.W.mg_of X G sL
    Dn:=⟨GL,PySem.W.mg_of X G Dm⟩
    Dk:=⟨GJ,PySem.W.mg_of X G Dj⟩
    CW:=⟨Gq,PySem.W.mg_of X G CV⟩
    Dr:=⟨GN,PySem.W.mg_of X G Dq⟩
    QF:=⟨Gn,PySem.W.mg_of X G CT⟩
    og:=⟨GD,PySem.W.mg_of X G De⟩
    oa:=⟨Gm,PySem.W.mg_of X G CS⟩
    sv:=⟨Gr,PySem.W.mg_of X G CY⟩
    sy:=⟨GG,PySem.W.mg_of X G Dg⟩
    su:=⟨Gk,PySem.W.mg_of X G CQ⟩
    QJ:=⟨Gz,PySem.W.mg_of X G C8⟩
    QP:=⟨GK,PySem.W.mg_of X G Dl⟩
    QE:=⟨Gj,PySem.W.mg_of X G CP⟩
    sx:=⟨Gw,PySem.W.mg_of X G C4⟩
    kR:=⟨Gv,PySem.W.mg_of X G C3⟩
    QG:=⟨Gp,PySem.W.mg_of X G CU⟩
    sD:=⟨GI,PySem.W.mg_of X G Dh⟩
    C7:=⟨Gy,PySem.W.mg_of X G C6⟩
    QI:=⟨Gx,PySem.W.mg_of X G C5⟩
    QL:=⟨GB,PySem.W.mg_of X G Dc⟩
    QK:=⟨GA,PySem.W.mg_of X G C9⟩
    QO:=⟨GH,PySem.W.mg_of X G Di⟩
    QH:=⟨Gu,PySem.W.mg_of X G C2⟩
    C0:=⟨Gs,PySem.W.mg_of X G CZ⟩
    QM:=⟨GC,PySem.W.mg_of X G Dd⟩
    QN:=⟨GF,PySem.W.mg_of X G Df⟩
    K5:=PySem.W.mg_none_of X G wb
    we:=PySem.W.mg_none_of X G wa
    dX:=PySem.W.mg_none_of X G v9
    qe:=PySem.W.mg_none_of X G v8
    K4:=PySem.W.mg_none_of X G v7
    K3:=PySem.W.mg_none_of X G vZ
    wd:=PySem.W.mg_none_of X G vY
    K2:=PySem.W.mg_none_of X G vX
    qd:=PySem.W.mg_none_of X G vW }
  ·have e:=hfa.symm.trans (PySem.W.mg_of X G sL)
   cases e
   rfl
 subst e
 refine ⟨A.n4,fun s us hu => ?_,fun base _ _ => ok A T base⟩
 obtain ⟨oc,od,kV,doc,pm,an,cdv,ct,osl,e1,_⟩:=T.Fc.ex
 rw [e1]
 exact match us,hu with | [_],_ => .of_eq rfl
end Sh
end
def PySem.W.Fast.tw8196133791938134603 : Nat := 0
def PySem.W.Fast.tw595630424932967341 : Nat := 0
def PySem.W.Fast.tw1013026487613514735 : Nat := 0
def PySem.W.Fast.tw11777389474933884145 : Nat := 0
def PySem.W.Fast.tw2960722998438265330 : Nat := 0
def PySem.W.Fast.tw5400014918271321403 : Nat := 0
def PySem.W.Fast.tw8102269887332272077 : Nat := 0
def PySem.W.Fast.tw6161072002739485780 : Nat := 0
def PySem.W.Fast.tw1560119625652771474 : Nat := 0
def PySem.W.Fast.tw13679803691968133226 : Nat := 0
def PySem.W.Fast.tw13088145885605647550 : Nat := 0
def PySem.W.Fast.tw887641752752084110 : Nat := 0
def PySem.W.Fast.tw3954416593309787153 : Nat := 0
def PySem.W.Fast.tw6025375901348354119 : Nat := 0
def PySem.W.Fast.tw14450107791526539996 : Nat := 0
def PySem.W.Fast.tw1442578967672038473 : Nat := 0
def PySem.W.Fast.tw15271424302359481890 : Nat := 0
def PySem.W.Fast.tw14858648720256880132 : Nat := 0
def PySem.W.Fast.tw5634526297608579719 : Nat := 0
def PySem.W.Fast.tw16541438526613739421 : Nat := 0
def PySem.W.Fast.tw11621010664573925511 : Nat := 0
def PySem.W.Fast.tw4669655549019232505 : Nat := 0
def PySem.W.Fast.tw4744411706561160725 : Nat := 0
def PySem.W.Fast.tw7211821020446926835 : Nat := 0
def PySem.W.Fast.tw18432178525852119838 : Nat := 0
def PySem.W.Fast.tw5551086098034862163 : Nat := 0
def PySem.W.Fast.tw15613348497989594724 : Nat := 0
def PySem.W.Fast.tw1194356413488907356 : Nat := 0
def PySem.W.Fast.tw9898308937585907714 : Nat := 0
def PySem.W.Fast.tw9203746621799107666 : Nat := 0
def PySem.W.Fast.tw7421162098526858319 : Nat := 0
def PySem.W.Fast.tw12810333717648738102 : Nat := 0
def PySem.W.Fast.tw5491335251159392808 : Nat := 0
def PySem.W.Fast.tw8715780549721756244 : Nat := 0
def PySem.W.Fast.tw4644247810788998692 : Nat := 0
def PySem.W.Fast.tw2219089066205992530 : Nat := 0
def PySem.W.Fast.tw4760800850864453460 : Nat := 0
def PySem.W.Fast.tw16109338809060001874 : Nat := 0
def PySem.W.Fast.tw2597553798651407699 : Nat := 0
def PySem.W.Fast.tw7246492753532855935 : Nat := 0
def PySem.W.Fast.tw16036474940125493666 : Nat := 0
def PySem.W.Fast.tw2804475422276849476 : Nat := 0
def PySem.W.Fast.tw16988177580864903315 : Nat := 0
def PySem.W.Fast.tw14342702225988559542 : Nat := 0
def PySem.W.Fast.tw16105438260662278870 : Nat := 0
def PySem.W.Fast.tw2991466727036699510 : Nat := 0
def PySem.W.Fast.tw7771202695214378243 : Nat := 0
def PySem.W.Fast.tw3419935087348754046 : Nat := 0
def PySem.W.Fast.tw3165271962591574385 : Nat := 0
def PySem.W.Fast.tw1127296680825330846 : Nat := 0
def PySem.W.Fast.tw6794124174610010513 : Nat := 0
def PySem.W.Fast.tw17467401976105677587 : Nat := 0
def PySem.W.Fast.tw13741024768452149109 : Nat := 0
def PySem.W.Fast.tw18318820546146580874 : Nat := 0
def PySem.W.Fast.tw9306446636814478627 : Nat := 0
def PySem.W.Fast.tw10148306573252553301 : Nat := 0
def PySem.W.Fast.tw16454694803202577439 : Nat := 0
def PySem.W.Fast.tw16343744050107137400 : Nat := 0
def PySem.W.Fast.tw11020236894735721981 : Nat := 0
def PySem.W.Fast.tw7612915167294199842 : Nat := 0
def PySem.W.Fast.tw1661209074138089547 : Nat := 0
def PySem.W.Fast.tw435943092864322789 : Nat := 0
def PySem.W.Fast.tw15733656534753669479 : Nat := 0
def PySem.W.Fast.tw16225595866960599389 : Nat := 0
def PySem.W.Fast.tw10677580814039872579 : Nat := 0
def PySem.W.Fast.tw4099156425657343765 : Nat := 0
def PySem.W.Fast.tw15291231977626576132 : Nat := 0
def PySem.W.Fast.tw8287725644894622235 : Nat := 0
def PySem.W.Fast.tw14349030050421694321 : Nat := 0
def PySem.W.Fast.tw11957429787599786359 : Nat := 0
def PySem.W.Fast.tw6774396242286011007 : Nat := 0
def PySem.W.Fast.tw12872416599801008707 : Nat := 0
def PySem.W.Fast.tw5186613227175394328 : Nat := 0
def PySem.W.Fast.tw5951053749441457647 : Nat := 0
def PySem.W.Fast.tw4124990977875035448 : Nat := 0
def PySem.W.Fast.tw197474617075753522 : Nat := 0
def PySem.W.Fast.tw7580001568978883231 : Nat := 0
def PySem.W.Fast.tw10511521793050322789 : Nat := 0
def PySem.W.Fast.tw5434313962152699894 : Nat := 0
def PySem.W.Fast.tw17990838590250172167 : Nat := 0
def PySem.W.Fast.tw16637165061925119981 : Nat := 0
def PySem.W.Fast.tw2805344652594575444 : Nat := 0
def PySem.W.Fast.tw970433056685223730 : Nat := 0
def PySem.W.Fast.tw10165384305008186024 : Nat := 0
def PySem.W.Fast.tw4312847686307459720 : Nat := 0
def PySem.W.Fast.tw6028617893714212917 : Nat := 0
def PySem.W.Fast.tw9947872538056428480 : Nat := 0
def PySem.W.Fast.tw3196035758290529093 : Nat := 0
def PySem.W.Fast.tw16723444925992073696 : Nat := 0
def PySem.W.Fast.tw15373295037909112950 : Nat := 0
def PySem.W.Fast.tw6818508239847781976 : Nat := 0
def PySem.W.Fast.tw5297605479226029124 : Nat := 0
def PySem.W.Fast.tw14371936421734319802 : Nat := 0
def PySem.W.Fast.tw18297396048907166266 : Nat := 0
def PySem.W.Fast.tw2386220040773978119 : Nat := 0
def PySem.W.Fast.tw8860239277444835211 : Nat := 0
def PySem.W.Fast.tw6754819034147366009 : Nat := 0
def PySem.W.Fast.tw14415572215426549550 : Nat := 0
def PySem.W.Fast.tw10681066119092263396 : Nat := 0
def PySem.W.Fast.tw7826901654537061347 : Nat := 0
def PySem.W.Fast.tw16496358117695764668 : Nat := 0
def PySem.W.Fast.tw10991794709132154294 : Nat := 0
def PySem.W.Fast.tw7331782674589535900 : Nat := 0
open PySem PySem.W PyProof.Rows
set_option Elab.async false
set_option maxRecDepth 100000 in
set_option maxHeartbeats 0 in
theorem PySem.Challenge.cw_seathouses_s01_answers_holds : PySem.Challenge.rw_seathouses_s01_answers.Holds := by
 w_on; k_headS; (case hw => exact ⟨[.list [.int 14]],by decide +kernel,by decide +kernel⟩)
 k_fillS
 refine L2.SN (r := PySem.Challenge.rw_seathouses_s01_answers) (k := 10) (CX := L2.aQ) (ps := ["calls"]) (sp := Sh.G0) (by decide +kernel) rfl rfl ⟨rfl,by decide,by decide⟩ (fun w h Y => PySem.W.kIn_of Y) ?F ?S (fun _ _ _ _ z => z)
 case F =>
  intro w mg fa h Y KX G hmg
  refine' Sh.aeR KX G hmg (fun A T base => Sh.X5 T) ?Em ?EO ?Ep ?EK ?Eg ?Ed ?EM ?Ek ?Ap ?yh ?zI ?vJ ?Ej ?Ao ?yg ?zH ?pB ?El ?Aq ?yi ?zJ ?pC ?Ei ?An ?yf ?zG ?pA ?Eh ?Am ?ye ?zF ?pz ?DJ ?xB ?y2 ?vb ?EN ?AO ?yF ?Aa ?vN ?Eo ?Ar ?yj ?zK ?vK ?EC ?AF ?yw ?zV ?vL ?Ez ?AB ?yr ?zS ?pK ?ED ?AG ?yx ?zW ?pN ?Ex ?Ay ?yp ?zQ ?pI ?EA ?AD ?yt ?zT ?pL ?Es ?Au ?yl ?zM ?pE ?EB ?AE ?yu ?zU ?pM ?Er ?As ?yk ?zL ?pD ?EI ?AL ?yC ?z6 ?pS ?Et ?Av ?ym ?zN ?pF ?EJ ?AM ?yD ?z7 ?pT ?Ew ?Ax ?yo ?zP ?pH ?Eu ?Aw ?yn ?zO ?pG ?EF ?AI ?yz ?zY ?pP ?EE ?AH ?yy ?zX ?pO ?EG ?AJ ?yA ?zZ ?pQ ?EH ?AK ?yB ?z0 ?pR ?Ey ?Az ?yq ?zR ?pJ ?Ef ?Al ?yd ?zE ?vI ?D8 ?Ag ?x6 ?zz ?vH ?Ec ?Ak ?yc ?zD ?px ?Eb ?Aj ?ya ?zC ?pw ?D6 ?Ae ?x4 ?zx ?ph ?Ea ?Ai ?x9 ?zB ?pq ?D9 ?Ah ?x8 ?zA ?pk ?D7 ?Af ?x5 ?zy ?pj ?D3 ?xW ?zt ?vD ?Dy ?xn ?yQ ?uV ?DG ?xx ?yY ?u7 ?DE ?xu ?yW ?u5 ?DF ?xw ?yX ?u6 ?DD ?xt ?yV ?u0 ?DC ?xr ?yU ?uZ ?EL ?AN ?yE ?z9 ?vM ?DK ?xC ?y3 ?vc ?DX ?xQ ?zk ?vx ?D0 ?xT ?zp ?vA ?DO ?xG ?zb ?vg ?DQ ?xI ?zd ?vi ?DW ?xP ?zj ?vv ?D4 ?xX ?zu ?vE ?DZ ?xS ?zo ?vz ?DU ?xN ?zh ?vq ?DY ?xR ?zm ?vy ?DB ?xq ?yT ?uY ?D2 ?xV ?zr ?vC ?D1 ?xU ?zq ?vB ?DL ?xD ?y4 ?vd ?DM ?xE ?y9 ?ve ?DR ?xJ ?ze ?vj ?DV ?xO ?zi ?vt ?DT ?xM ?zg ?vp ?DN ?xF ?za ?vf ?DS ?xK ?zf ?vm ?DI ?xA ?y1 ?va ?DP ?xH ?zc ?vh ?DA ?xp ?yS ?uX ?DH ?xy ?yZ ?u9 ?Dz ?xo ?yR ?uW ?D5 ?xZ ?zw ?vG ?sL ?xY ?zv ?vF ?uN ?A3 ?uF ?mf ?yL ?um ?wB ?wA ?uR ?A7 ?uJ ?ml ?yP ?uu ?wU ?wR ?uO ?A4 ?uG ?mh ?yM ?uo ?wG ?wH ?wJ ?wF ?wD ?wC ?wI ?uP ?A5 ?uH ?mi ?yN ?uq ?wK ?wM ?wL ?uM ?A2 ?uE ?me ?yK ?uk ?wx ?wy ?wz ?wu ?wm ?wq ?wo ?uL ?A1 ?uD ?md ?yJ ?uj ?wj ?wg ?uQ ?A6 ?uI ?mj ?yO ?ur ?wO ?wQ ?wN ?Dm ?Dj ?CV ?Dq ?CT ?De ?CS ?CY ?Dg ?CQ ?C8 ?Dl ?CP ?C4 ?C3 ?CU ?Dh ?C6 ?C5 ?Dc ?C9 ?Di ?C2 ?CZ ?Dd ?Df ?wb ?wa ?v9 ?v8 ?v7 ?vZ ?vY ?vX ?vW ?ER ?mO ?En ?mN ?Ee ?mM ?ES ?yG ?ET ?yH ?tT ?tS ?uv ?Bs ?Bt ?Bu ?Br ?Bq
  (case Em | EO | Ep | EK | Eg | Ed | EM | Ek | Ap | yh | zI | vJ | Ej | Ao | yg | zH | pB | El | Aq | yi | zJ | pC | Ei | An | yf | zG | pA | Eh | Am | ye | zF | pz | DJ | xB | y2 | vb | EN | AO | yF | Aa | vN | Eo | Ar | yj | zK | vK | EC | AF | yw | zV | vL | Ez | AB | yr | zS | pK | ED | AG | yx | zW | pN | Ex | Ay | yp | zQ | pI | EA | AD | yt | zT | pL | Es | Au | yl | zM | pE | EB | AE | yu | zU | pM | Er | As | yk | zL | pD | EI | AL | yC | z6 | pS | Et | Av | ym | zN | pF | EJ | AM | yD | z7 | pT | Ew | Ax | yo | zP | pH | Eu | Aw | yn | zO | pG | EF | AI | yz | zY | pP | EE | AH | yy | zX | pO | EG | AJ | yA | zZ | pQ | EH | AK | yB | z0 | pR | Ey | Az | yq | zR | pJ | Ef | Al | yd | zE | vI | D8 | Ag | x6 | zz | vH | Ec | Ak | yc | zD | px | Eb | Aj | ya | zC | pw | D6 | Ae | x4 | zx | ph | Ea | Ai | x9 | zB | pq | D9 | Ah | x8 | zA | pk | D7 | Af | x5 | zy | pj | D3 | xW | zt | vD | Dy | xn | yQ | uV | DG | xx | yY | u7 | DE | xu | yW | u5 | DF | xw | yX | u6 | DD | xt | yV | u0 | DC | xr | yU | uZ | EL | AN | yE | z9 | vM | DK | xC | y3 | vc | DX | xQ | zk | vx | D0 | xT | zp | vA | DO | xG | zb | vg | DQ | xI | zd | vi | DW | xP | zj | vv | D4 | xX | zu | vE | DZ | xS | zo | vz | DU | xN | zh | vq | DY | xR | zm | vy | DB | xq | yT | uY | D2 | xV | zr | vC | D1 | xU | zq | vB | DL | xD | y4 | vd | DM | xE | y9 | ve | DR | xJ | ze | vj | DV | xO | zi | vt | DT | xM | zg | vp | DN | xF | za | vf | DS | xK | zf | vm | DI | xA | y1 | va | DP | xH | zc | vh | DA | xp | yS | uX | DH | xy | yZ | u9 | Dz | xo | yR | uW | D5 | xZ | zw | vG | sL | xY | zv | vF | uN | A3 | uF | mf | yL | um | wB | wA | uR | A7 | uJ | ml | yP | uu | wU | wR | uO | A4 | uG | mh | yM | uo | wG | wH | wJ | wF | wD | wC | wI | uP | A5 | uH | mi | yN | uq | wK | wM | wL | uM | A2 | uE | me | yK | uk | wx | wy | wz | wu | wm | wq | wo | uL | A1 | uD | md | yJ | uj | wj | wg | uQ | A6 | uI | mj | yO | ur | wO | wQ | wN | Dm | Dj | CV | Dq | CT | De | CS | CY | Dg | CQ | C8 | Dl | CP | C4 | C3 | CU | Dh | C6 | C5 | Dc | C9 | Di | C2 | CZ | Dd | Df | wb | wa | v9 | v8 | v7 | vZ | vY | vX | vW | ER | En | Ee | ES | yG | ET | yH => k_is)
  (case mO => kernel_rfl)
  (case mN => kernel_rfl)
  (case mM => kernel_rfl)
  (case tT => first | k_is | exact ⟨⟨_,_,rfl,rfl⟩,⟨_,_,rfl,rfl⟩,⟨_,_,rfl,rfl⟩,⟨_,_,rfl,rfl⟩,⟨_,_,rfl,rfl⟩,trivial⟩)
  (case tS => exact .cons ⟨⟨_,rfl⟩,rfl⟩ (.cons ⟨⟨_,rfl⟩,rfl⟩ (.cons ⟨⟨_,rfl⟩,rfl⟩ (.cons ⟨⟨_,rfl⟩,rfl⟩ (.cons ⟨⟨_,rfl⟩,rfl⟩ .nil)))))
  (case uv => first | rfl | decide | k_is)
  (case Bs => kernel_rfl)
  (case Bt => kernel_rfl)
  (case Bu => kernel_rfl)
  (case Br => kernel_rfl)
  (case Bq => kernel_rfl)
 case S =>
  intro K H xs a hO hwi hask hx
  cases hx with
  | cons h1 h2 =>
    cases h2
    cases h1 with
    | lst hs ha =>
      have e := L2.MP a.1 _ ha
      subst e
      have q : ((Codec.inLen 0 25000 a.1 && a.1.all (Codec.inInt (-1000000000000) 1000000000000)) && true) = true := hwi
      rw [Bool.and_eq_true,Bool.and_eq_true] at q
      exact ⟨_,a.1,rfl,hs,hask,(Codec.inNat_iff.mp q.1.1).2,fun H' p hp => .lst (L2.az.of hp) (L2.ND _)⟩
#print axioms PySem.Challenge.cw_seathouses_s01_answers_holds
