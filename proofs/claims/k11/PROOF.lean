import PyProof.Rows.All
import HandS.ForMost
import HandS.IsInst
import HandS.Style
import HandS.TupAny
import HandS.Conv
import HandS.WideBits
import HandS.Flow
import HandS.TupLe
import HandS.Zip
import PyProof.ReprLen
import Wide.All
import PySem.Challenge.RW_restkeepers_k11_whole_rests
set_option Elab.async false
set_option linter.all false
set_option maxRecDepth 100000
/-! RI: Python defs as plain Lean functions over a store of my own; each piece is tied to the layer's readings. -/
namespace RI
open PySem L2

inductive IV where
  | non | bl (b : Bool) | int (i : Int) | str (x : Str) | rpr (d : PyData) | ref (l : Nat) | ty (n : String)

inductive IO where
  | lst (xs : List IV) | tup (xs : List IV) | fl (xs : List IV)

/-- the first eight places are what stands from the start (st); n: how many places there are, os: the later ones, the newest first -/
structure Sto where
  st : List IO
  n : Nat
  os : List IO

def Sto.get (S : Sto) (l : Nat) : Option IO := if l < 8 then S.st[l]? else if l < S.n then S.os[S.n - 1 - l]? else none
def Sto.put (S : Sto) (o : IO) : Sto := ⟨S.st, S.n + 1, o :: S.os⟩
def Sto.set (S : Sto) (l : Nat) (o : IO) : Sto := ⟨S.st, S.n, S.os.set (S.n - 1 - l) o⟩

inductive R3 (α : Type) where
  | ok (a : α) (S : Sto)
  | no

def Rv (m : List Addr) : IV → V → Prop
  | .non, w => w = .non
  | .bl b, w => w = .bl b
  | .int i, w => w = .int i
  | .str x, w => w = .str x
  | .rpr d, w => w = .str d.shown
  | .ref l, w => ∃ a, m[l]? = some a ∧ w = .ref a
  | .ty n, w => w = .ty n

abbrev Rvs (m : List Addr) : List IV → List V → Prop := Paired (Rv m)

theorem pre_get {m m' : List Addr} (p : m <+: m') {l : Nat} {a : Addr} (h : m[l]? = some a) : m'[l]? = some a := by
  obtain ⟨t, rfl⟩ := p
  obtain ⟨hl, _⟩ := List.getElem?_eq_some_iff.mp h
  rw [List.getElem?_append_left hl]; exact h

theorem Rv.mono {m m' : List Addr} (p : m <+: m') : ∀ {v : IV} {w : V}, Rv m v w → Rv m' v w
  | .non, _, h => h | .bl _, _, h => h | .int _, _, h => h | .str _, _, h => h | .rpr _, _, h => h | .ty _, _, h => h
  | .ref _, _, ⟨a, e, h⟩ => ⟨a, pre_get p e, h⟩
theorem Rvs.mono {m m' : List Addr} (p : m <+: m') : ∀ {vs : List IV} {ws : List V}, Rvs m vs ws → Rvs m' vs ws
  | _, _, .nil => .nil
  | _, _, .cons r t => .cons (r.mono p) (Rvs.mono p t)

/-- a list that is only read: locked, or written -/
def SqF (K : PySem.W.Frag) (H : Hp) (a : Addr) (ys : List V) : Prop :=
  (∃ o, H a = some (.frz o (.lst ys))) ∨ ∃ (o : Obj) (its : Array Value) (n : Nat), K.lookup a = some o ∧ o.cls = .type "list" ∧ o.dict = none ∧ o.data = .seq its n ∧ its.size ≤ sizeLine ∧ Vals ys its.toList
theorem SqF.l {K : PySem.W.Frag} {H : Hp} {a : Addr} {ys : List V} (h : SqF K H a ys) : SqL K H a ys := h.elim (fun ⟨o, e⟩ => .inl (.inr ⟨o, e⟩)) .inr

def Ro (K : PySem.W.Frag) (m : List Addr) (H : Hp) (a : Addr) : IO → Prop
  | .lst xs => ∃ ys, H a = some (.lst ys) ∧ Rvs m xs ys
  | .tup xs => ∃ ys, SqT K H a ys ∧ Rvs m xs ys
  | .fl xs => ∃ ys, SqF K H a ys ∧ Rvs m xs ys

theorem Ro.mono {K : PySem.W.Frag} {m m' : List Addr} (p : m <+: m') {H : Hp} {a : Addr} : ∀ {o : IO}, Ro K m H a o → Ro K m' H a o
  | .lst _, ⟨ys, e, r⟩ => ⟨ys, e, r.mono p⟩
  | .tup _, ⟨ys, e, r⟩ => ⟨ys, e, r.mono p⟩
  | .fl _, ⟨ys, e, r⟩ => ⟨ys, e, r.mono p⟩

/-- the heap changes at a place where no tuple and no locked thing stands -/
def Fr1 (H : Hp) (p : Addr) : Prop := H p = none ∨ ∃ xs, H p = some (.lst xs)
theorem sqT_upd {K : PySem.W.Frag} {H : Hp} {a p : Addr} {o : HO} {ys : List V} (hp : Fr1 H p) (h : SqT K H a ys) : SqT K (upd H p o) a ys := by
  rcases h with (h | ⟨u, h⟩) | h
  · refine .inl (.inl ?_)
    rw [upd_ne]; exact h
    rintro rfl; rcases hp with e | ⟨_, e⟩ <;> (rw [h] at e; cases e)
  · refine .inl (.inr ⟨u, ?_⟩)
    rw [upd_ne]; exact h
    rintro rfl; rcases hp with e | ⟨_, e⟩ <;> (rw [h] at e; cases e)
  · exact .inr h
theorem sqF_upd {K : PySem.W.Frag} {H : Hp} {a p : Addr} {o : HO} {ys : List V} (hp : Fr1 H p) (h : SqF K H a ys) : SqF K (upd H p o) a ys := by
  rcases h with ⟨u, h⟩ | h
  · refine .inl ⟨u, ?_⟩
    rw [upd_ne]; exact h
    rintro rfl; rcases hp with e | ⟨_, e⟩ <;> (rw [h] at e; cases e)
  · exact .inr h

structure R (K : PySem.W.Frag) (M0 m : List Addr) (S : Sto) (H : Hp) : Prop where
  pre : M0 <+: m
  len : m.length = S.n
  osn : S.os.length + 8 = S.n
  sta : ∀ l xs, l < 8 → S.get l ≠ some (.lst xs)
  obj : ∀ l o, S.get l = some o → ∃ a, m[l]? = some a ∧ Ro K m H a o
  inj : ∀ l l' xs ys a, S.get l = some (.lst xs) → S.get l' = some (.lst ys) → m[l]? = some a → m[l']? = some a → l = l'

theorem get_put_new {S : Sto} {o : IO} (h8 : 8 ≤ S.n) : (S.put o).get S.n = some o := by
  unfold Sto.get Sto.put
  simp only
  rw [if_neg (by omega), if_pos (by omega)]
  simp
theorem get_put_old {S : Sto} {o : IO} {l : Nat} (h : l < S.n) : (S.put o).get l = S.get l := by
  unfold Sto.get Sto.put
  simp only
  by_cases h8 : l < 8
  · rw [if_pos h8, if_pos h8]
  · have e : S.n + 1 - 1 - l = (S.n - 1 - l) + 1 := by omega
    rw [if_neg h8, if_neg h8, if_pos (by omega), if_pos h, e, List.getElem?_cons_succ]
theorem get_lt {S : Sto} {l : Nat} {o : IO} (h8 : 8 ≤ S.n) (h : S.get l = some o) : l < S.n := by
  unfold Sto.get at h
  split at h
  · omega
  · split at h
    · assumption
    · cases h
theorem get_put {S : Sto} {o u : IO} {l : Nat} (h8 : 8 ≤ S.n) (h : (S.put o).get l = some u) : (l = S.n ∧ u = o) ∨ (l < S.n ∧ S.get l = some u) := by
  have hl : l < S.n + 1 := get_lt (S := S.put o) (by show 8 ≤ S.n + 1; omega) h
  by_cases e : l = S.n
  · subst e
    rw [get_put_new h8] at h
    exact .inl ⟨rfl, (Option.some.inj h).symm⟩
  · have h' : l < S.n := by omega
    rw [get_put_old h'] at h
    exact .inr ⟨h', h⟩
theorem get_set_self {S : Sto} {l : Nat} {o u : IO} (hs : S.os.length + 8 = S.n) (h8 : 8 ≤ l) (h : S.get l = some u) : (S.set l o).get l = some o := by
  have hl := get_lt (by omega) h
  unfold Sto.get Sto.set
  simp only
  rw [if_neg (by omega), if_pos hl, List.getElem?_set_self (by omega)]
theorem get_set_ne {S : Sto} {l l' : Nat} {o : IO} (hl : l < S.n) (h8 : 8 ≤ l) (h : l' ≠ l) : (S.set l o).get l' = S.get l' := by
  unfold Sto.get Sto.set
  simp only
  by_cases h9 : l' < 8
  · rw [if_pos h9, if_pos h9]
  · rw [if_neg h9, if_neg h9]
    by_cases h' : l' < S.n
    · rw [if_pos h', if_pos h', List.getElem?_set_ne (by omega)]
    · rw [if_neg h', if_neg h']

section
variable {K : PySem.W.Frag} {M0 m : List Addr} {S : Sto} {H : Hp} {p a : Addr} {xs : List IV} {ys : List V}
theorem Ro.upd_new {o : IO} {u : HO} (hn : H p = none) (h : Ro K m H a o) : Ro K m (upd H p u) a o := by
  cases o with
  | lst xs => obtain ⟨ys, e, r⟩ := h; exact ⟨ys, by rw [upd_ne (ne_of_none e hn)]; exact e, r⟩
  | tup xs => obtain ⟨ys, e, r⟩ := h; exact ⟨ys, sqT_upd (.inl hn) e, r⟩
  | fl xs => obtain ⟨ys, e, r⟩ := h; exact ⟨ys, sqF_upd (.inl hn) e, r⟩
theorem R.n8 (h : R K M0 m S H) : 8 ≤ S.n := by have := h.osn; omega
theorem R.ge8 (h : R K M0 m S H) {l : Nat} (e : S.get l = some (.lst xs)) : 8 ≤ l := by
  by_cases h' : l < 8
  · exact absurd e (h.sta l xs h')
  · omega
theorem R.put (h : R K M0 m S H) {o : IO} {u : HO} (hn : H p = none) (ho : Ro K (m ++ [p]) (upd H p u) p o) : R K M0 (m ++ [p]) (S.put o) (upd H p u) := by
  have px : m <+: m ++ [p] := List.prefix_append _ _
  have h8 := h.n8
  refine ⟨h.pre.trans px, by simp [h.len, Sto.put], by have := h.osn; simp only [Sto.put, List.length_cons]; omega, fun l xs hl => ?_, fun l o' e => ?_, fun l l' xs ys b e e' f f' => ?_⟩
  · rw [get_put_old (by omega)]; exact h.sta l xs hl
  · rcases get_put h8 e with ⟨rfl, rfl⟩ | ⟨hl, e⟩
    · exact ⟨p, by rw [List.getElem?_append_right (Nat.le_of_eq h.len), h.len]; simp, ho⟩
    · obtain ⟨a, f, g⟩ := h.obj l o' e
      exact ⟨a, pre_get px f, (g.upd_new hn).mono px⟩
  · have old : ∀ {l : Nat} {zs : List IV}, S.get l = some (.lst zs) → (m ++ [p])[l]? = some b → m[l]? = some b ∧ b ≠ p := fun {l zs} e f => by
      obtain ⟨a, g, q⟩ := h.obj l _ e
      obtain ⟨zs', q, _⟩ := q
      rw [pre_get px g] at f; cases f
      exact ⟨g, ne_of_none q hn⟩
    have new : ∀ {l : Nat}, l = S.n → (m ++ [p])[l]? = some b → b = p := fun {l} e f => by
      rw [e, List.getElem?_append_right (Nat.le_of_eq h.len), h.len] at f
      simpa using f.symm
    rcases get_put h8 e with ⟨e1, _⟩ | ⟨_, e1⟩ <;> rcases get_put h8 e' with ⟨e2, _⟩ | ⟨_, e2⟩
    · omega
    · exact absurd (new e1 f) (old e2 f').2
    · exact absurd (new e2 f') (old e1 f).2
    · exact h.inj l l' _ _ b e1 e2 (old e1 f).1 (old e2 f').1
theorem R.put_lst (h : R K M0 m S H) (hn : H p = none) (r : Rvs m xs ys) : R K M0 (m ++ [p]) (S.put (.lst xs)) (upd H p (.lst ys)) :=
  h.put hn ⟨ys, upd_same, r.mono (List.prefix_append _ _)⟩
theorem R.put_tup (h : R K M0 m S H) (hn : H p = none) (r : Rvs m xs ys) : R K M0 (m ++ [p]) (S.put (.tup xs)) (upd H p (.tup ys)) :=
  h.put hn ⟨ys, .of upd_same, r.mono (List.prefix_append _ _)⟩
theorem R.new_at (h : R K M0 m S H) : (m ++ [p])[S.n]? = some p := by
  rw [List.getElem?_append_right (Nat.le_of_eq h.len), h.len]; simp
theorem R.lst (h : R K M0 m S H) {l : Nat} (e : S.get l = some (.lst xs)) : ∃ a ys, m[l]? = some a ∧ H a = some (.lst ys) ∧ Rvs m xs ys := by
  obtain ⟨a, f, ys, g, r⟩ := h.obj l _ e
  exact ⟨a, ys, f, g, r⟩
theorem R.set_lst (h : R K M0 m S H) {l : Nat} {xs' : List IV} {ys' : List V} (e : S.get l = some (.lst xs)) (f : m[l]? = some a) (r : Rvs m xs' ys') : R K M0 m (S.set l (.lst xs')) (upd H a (.lst ys')) := by
  obtain ⟨a', ys, f', g, _⟩ := h.lst e
  rw [f] at f'; cases f'
  have hl := get_lt h.n8 e
  have h8 := h.ge8 e
  have pv : Fr1 H a := .inr ⟨ys, g⟩
  refine ⟨h.pre, h.len, by show (S.os.set _ _).length + 8 = S.n; rw [List.length_set]; exact h.osn, fun k zs hk => ?_, fun k o e' => ?_, fun k k' zs zs' b e1 e2 f1 f2 => ?_⟩
  · rw [get_set_ne hl h8 (by omega)]; exact h.sta k zs hk
  · by_cases hk : k = l
    · subst hk
      rw [get_set_self h.osn h8 e] at e'
      cases e'
      exact ⟨a, f, ys', upd_same, r⟩
    · rw [get_set_ne hl h8 hk] at e'
      obtain ⟨b, fb, gb⟩ := h.obj k o e'
      refine ⟨b, fb, ?_⟩
      cases o with
      | lst zs =>
        obtain ⟨ws, q, rr⟩ := gb
        refine ⟨ws, ?_, rr⟩
        rw [upd_ne]; exact q
        rintro rfl
        exact hk (h.inj k l _ _ b e' e fb f)
      | tup zs => obtain ⟨ws, q, rr⟩ := gb; exact ⟨ws, sqT_upd pv q, rr⟩
      | fl zs => obtain ⟨ws, q, rr⟩ := gb; exact ⟨ws, sqF_upd pv q, rr⟩
  · have isl : ∀ {k : Nat} {zs : List IV}, (S.set l (.lst xs')).get k = some (.lst zs) → ∃ ws, S.get k = some (.lst ws) := fun {k zs} e => by
      by_cases hk : k = l
      · subst hk; exact ⟨_, ‹S.get k = some (.lst xs)›⟩
      · rw [get_set_ne hl h8 hk] at e; exact ⟨_, e⟩
    obtain ⟨_, q1⟩ := isl e1
    obtain ⟨_, q2⟩ := isl e2
    exact h.inj k k' _ _ b q1 q2 f1 f2
end

/-! ### what a piece comes to -/
def Sat {α : Type} (K : PySem.W.Frag) (M0 m : List Addr) (r : R3 α) (Q : List Addr → α → Sto → Hp → Prop) : Prop :=
  match r with
  | .ok a S => ∀ m' H, m <+: m' → R K M0 m' S H → Q m' a S H
  | .no => False

def R3.bind {α β : Type} (r : R3 α) (f : α → Sto → R3 β) : R3 β :=
  match r with
  | .ok a S => f a S
  | .no => .no

theorem Sat.mono {α : Type} {K : PySem.W.Frag} {M0 m m1 : List Addr} {r : R3 α} {Q : List Addr → α → Sto → Hp → Prop} (p : m <+: m1) (h : Sat K M0 m r Q) : Sat K M0 m1 r Q := by
  cases r with
  | ok a S => exact fun m' H q => h m' H (p.trans q)
  | no => exact h
theorem Sat.imp {α : Type} {K : PySem.W.Frag} {M0 m : List Addr} {r : R3 α} {Q Q' : List Addr → α → Sto → Hp → Prop} (h : Sat K M0 m r Q) (f : ∀ m' a S H, m <+: m' → R K M0 m' S H → Q m' a S H → Q' m' a S H) : Sat K M0 m r Q' := by
  cases r with
  | ok a S => exact fun m' H q hr => f m' a S H q hr (h m' H q hr)
  | no => exact h
theorem Sat.bind {α β : Type} {K : PySem.W.Frag} {M0 m : List Addr} {r : R3 α} {f : α → Sto → R3 β} {Q : List Addr → β → Sto → Hp → Prop} (h : Sat K M0 m (r.bind f) Q) :
    Sat K M0 m r fun m' a S _ => Sat K M0 m' (f a S) Q := by
  cases r with
  | ok a S => exact fun m' H p _ => Sat.mono (r := f a S) p h
  | no => exact h

/-! ### slots -/
abbrev Sl := List (Option IV)
def Rs (m : List Addr) (σi : Sl) (σ : L2.St) : Prop := σi.length = σ.length ∧ ∀ (i : Nat) (v : IV), σi[i]? = some (some v) → ∃ w, σ[i]? = some (some w) ∧ Rv m v w
theorem Rs.mono {m m' : List Addr} (p : m <+: m') {σi : Sl} {σ : L2.St} (h : Rs m σi σ) : Rs m' σi σ :=
  ⟨h.1, fun i v e => (h.2 i v e).elim fun w q => ⟨w, q.1, q.2.mono p⟩⟩
theorem Rs.set {m : List Addr} {σi : Sl} {σ : L2.St} (h : Rs m σi σ) {v : IV} {w : V} (r : Rv m v w) (i : Nat) : Rs m (σi.set i (some v)) (σ.set i (some w)) := by
  refine ⟨(List.length_set ..).trans (h.1.trans (List.length_set ..).symm), fun j u e => ?_⟩
  by_cases hj : i = j
  · subst hj
    by_cases hl : i < σi.length
    · rw [List.getElem?_set_self hl] at e
      cases e
      exact ⟨w, by rw [List.getElem?_set_self (by rw [← h.1]; exact hl)], r⟩
    · rw [List.getElem?_eq_none (by simpa using hl)] at e; cases e
  · rw [List.getElem?_set_ne hj] at e
    obtain ⟨x, a, b⟩ := h.2 j u e
    exact ⟨x, by rw [List.getElem?_set_ne hj]; exact a, b⟩
def wipeI (σ : Sl) : List Nat → Sl
  | [] => σ
  | v :: vs => (wipeI σ vs).set v none
theorem Rs.unset {m : List Addr} {σi : Sl} {σ : L2.St} (h : Rs m σi σ) (i : Nat) : Rs m (σi.set i none) (σ.set i none) := by
  refine ⟨(List.length_set ..).trans (h.1.trans (List.length_set ..).symm), fun j u e => ?_⟩
  by_cases hj : i = j
  · subst hj
    by_cases hl : i < σi.length
    · rw [List.getElem?_set_self hl] at e; cases e
    · rw [List.getElem?_eq_none (by simpa using hl)] at e; cases e
  · rw [List.getElem?_set_ne hj] at e
    obtain ⟨x, a, b⟩ := h.2 j u e
    exact ⟨x, by rw [List.getElem?_set_ne hj]; exact a, b⟩
theorem Rs.wipe {m : List Addr} {σi : Sl} {σ : L2.St} (h : Rs m σi σ) : ∀ vs : List Nat, Rs m (wipeI σi vs) (wipe σ vs)
  | [] => h
  | v :: vs => (Rs.wipe h vs).unset v

/-! ### readings -/
abbrev DE := Sl → Sto → R3 IV
abbrev DA := Sl → Sto → R3 (List IV)
abbrev DT := Sl → Sto → R3 Bool
abbrev Fn := List IV → Sto → R3 IV

def tI (K : PySem.W.Frag) (M0 : List Addr) (d : DE) : TE := fun σ H Q => ∃ m σi S, R K M0 m S H ∧ Rs m σi σ ∧ Sat K M0 m (d σi S) fun m' v _ H' => ∀ w, Rv m' v w → Q w H'
def tIT (K : PySem.W.Frag) (M0 : List Addr) (d : DT) : TT := fun σ H Q => ∃ m σi S, R K M0 m S H ∧ Rs m σi σ ∧ Sat K M0 m (d σi S) fun _ b _ H' => Q b H'
def tIA (K : PySem.W.Frag) (M0 : List Addr) (d : DA) : TA := fun σ H Q => ∃ m σi S, R K M0 m S H ∧ Rs m σi σ ∧ Sat K M0 m (d σi S) fun m' vs _ H' => ∀ ws, Rvs m' vs ws → Q ws H'

theorem PE.imp {X : Cx} {e : Expr} {t t' : TE} (h : PE X e t) (f : ∀ σ H Q, t' σ H Q → t σ H Q) : PE X e t' := ⟨fun pins s σ H Q I q => h.run pins s σ H Q I (f σ H Q q)⟩
theorem PT.imp {X : Cx} {e : Expr} {t t' : TT} (h : PT X e t) (f : ∀ σ H Q, t' σ H Q → t σ H Q) : PT X e t' := ⟨fun pins s σ H Q I q => h.run pins s σ H Q I (f σ H Q q)⟩
theorem PA.imp {X : Cx} {e : List Expr} {t t' : TA} (h : PA X e t) (f : ∀ σ H Q, t' σ H Q → t σ H Q) : PA X e t' := ⟨fun pos pins s σ H Q I q => h.run pos pins s σ H Q I (f σ H Q q)⟩
theorem PS.imp {X : Cx} {e : Stmt} {t t' : TS} (h : PS X e t) (f : ∀ D σ H, t' D σ H → t D σ H) : PS X e t' := ⟨fun pins s σ H D I q => h.run pins s σ H D I (f D σ H q)⟩
theorem PSs.imp {X : Cx} {e : List Stmt} {t t' : TS} (h : PSs X e t) (f : ∀ D σ H, t' D σ H → t D σ H) : PSs X e t' := ⟨fun pins s σ H D I q => h.run pins s σ H D I (f D σ H q)⟩
end RI
set_option maxRecDepth 100000
namespace RI
open PySem L2

theorem line_ok {n : Nat} (h : n ≤ 100000) : n ≤ sizeLine := Nat.le_trans h (by decide)
theorem line_lt {n : Nat} (h : n < 100000) : n < sizeLine := Nat.lt_of_lt_of_le h (by decide)

/-! ### expressions -/
def dVar (i : Nat) : DE := fun σ S => match σ[i]? with | some (some v) => .ok v S | _ => .no
def dC (v : IV) : DE := fun _ S => .ok v S
def dOp (f : IV → IV → Sto → R3 IV) (da db : DE) : DE := fun σ S => (da σ S).bind fun x S1 => (db σ S1).bind fun y S2 => f x y S2
def dUn (f : IV → Sto → R3 IV) (da : DE) : DE := fun σ S => (da σ S).bind fun x S1 => f x S1
def dNil : DA := fun _ S => .ok [] S
def dCons (da : DE) (dr : DA) : DA := fun σ S => (da σ S).bind fun x S1 => (dr σ S1).bind fun xs S2 => .ok (x :: xs) S2
def dTup (d : DA) : DE := fun σ S => (d σ S).bind fun xs S1 => if xs.length ≤ 100000 then .ok (.ref S1.n) (S1.put (.tup xs)) else .no
def dLst (d : DA) : DE := fun σ S => (d σ S).bind fun xs S1 => if xs.length ≤ 100000 then .ok (.ref S1.n) (S1.put (.lst xs)) else .no
def dAndV (da db : DE) : DE := fun σ S => (da σ S).bind fun x S1 => match x with | .bl true => db σ S1 | .bl false => .ok (.bl false) S1 | _ => .no
def dOrV (da db : DE) : DE := fun σ S => (da σ S).bind fun x S1 => match x with | .bl true => .ok (.bl true) S1 | .bl false => db σ S1 | _ => .no
def dNotV (da : DE) : DE := fun σ S => (da σ S).bind fun x S1 => match x with | .bl b => .ok (.bl (!b)) S1 | _ => .no
def dIf (t : DT) (da db : DE) : DE := fun σ S => (t σ S).bind fun b S1 => match b with | true => da σ S1 | false => db σ S1
def dCall (f : Fn) (d : DA) : DE := fun σ S => (d σ S).bind f
def dCallK (f : Fn) (perm : List Nat) (d dk : DA) : DE := fun σ S => (d σ S).bind fun vs S1 => (dk σ S1).bind fun zs S2 => f (perm.filterMap fun i => (vs ++ zs)[i]?) S2
def dChain (f g : IV → IV → Sto → R3 IV) (da db dc : DE) : DE := fun σ S => (da σ S).bind fun x S1 => (db σ S1).bind fun y S2 => (f x y S2).bind fun z S3 => match z with
  | .bl true => (dc σ S3).bind fun w S4 => g y w S4
  | .bl false => .ok (.bl false) S3
  | _ => .no

def OpI (K : PySem.W.Frag) (M0 : List Addr) (r : R2) (f : IV → IV → Sto → R3 IV) : Prop :=
  ∀ (m : List Addr) (S : Sto) (H : Hp) (x y : V) (vx vy : IV) (Q : VK), R K M0 m S H → Rv m vx x → Rv m vy y → Sat K M0 m (f vx vy S) (fun m' v _ H' => ∀ w, Rv m' v w → Q w H') → r x y H Q
def UnI (K : PySem.W.Frag) (M0 : List Addr) (r : V → Hp → VK → Prop) (f : IV → Sto → R3 IV) : Prop :=
  ∀ (m : List Addr) (S : Sto) (H : Hp) (x : V) (vx : IV) (Q : VK), R K M0 m S H → Rv m vx x → Sat K M0 m (f vx S) (fun m' v _ H' => ∀ w, Rv m' v w → Q w H') → r x H Q
def CallI (K : PySem.W.Frag) (M0 : List Addr) (r : List V → Hp → VK → Prop) (f : Fn) : Prop :=
  ∀ (m : List Addr) (S : Sto) (H : Hp) (xs : List V) (vs : List IV) (Q : VK), R K M0 m S H → Rvs m vs xs → Sat K M0 m (f vs S) (fun m' v _ H' => ∀ w, Rv m' v w → Q w H') → r xs H Q
def MethI (K : PySem.W.Frag) (M0 : List Addr) (r : V → List V → Hp → VK → Prop) (f : IV → List IV → Sto → R3 IV) : Prop :=
  ∀ (m : List Addr) (S : Sto) (H : Hp) (x : V) (vx : IV) (xs : List V) (vs : List IV) (Q : VK), R K M0 m S H → Rv m vx x → Rvs m vs xs → Sat K M0 m (f vx vs S) (fun m' v _ H' => ∀ w, Rv m' v w → Q w H') → r x xs H Q

/-- a def's promise: what its Lean function comes to -/
def spI (K : PySem.W.Frag) (M0 : List Addr) (n : Nat) (f : Fn) : Sp := fun vs H Q _ => vs.length = n ∧ ∃ m ivs S, R K M0 m S H ∧ Rvs m ivs vs ∧ Sat K M0 m (f ivs S) fun m' v _ H' => ∀ w, Rv m' v w → Q w H'

section
variable {K : PySem.W.Frag} {M0 : List Addr} {σ : L2.St} {H : Hp} {Q : VK} {da db dc : DE} {dr : DA} {t : DT}

theorem op_tI {r : R2} {f : IV → IV → Sto → R3 IV} (hop : OpI K M0 r f) (h : tI K M0 (dOp f da db) σ H Q) : tOp r (tI K M0 da) (tI K M0 db) σ H Q := by
  obtain ⟨m, σi, S, hR, hs, h⟩ := h
  refine ⟨m, σi, S, hR, hs, h.bind.imp fun m1 v S1 H1 p1 R1 h1 w rw => ?_⟩
  refine ⟨m1, σi, S1, R1, hs.mono p1, h1.bind.imp fun m2 v2 S2 H2 p2 R2 h2 w2 rw2 => ?_⟩
  exact hop m2 S2 H2 w w2 v v2 Q R2 (rw.mono p2) rw2 h2
theorem un_tI {r : V → Hp → VK → Prop} {f : IV → Sto → R3 IV} (hop : UnI K M0 r f) (h : tI K M0 (dUn f da) σ H Q) : tUn r (tI K M0 da) σ H Q := by
  obtain ⟨m, σi, S, hR, hs, h⟩ := h
  exact ⟨m, σi, S, hR, hs, h.bind.imp fun m1 v S1 H1 p1 R1 h1 w rw => hop m1 S1 H1 w v Q R1 rw h1⟩
theorem nil_tI {Q : List V → Hp → Prop} (h : tIA K M0 dNil σ H Q) : tNil σ H Q := by
  obtain ⟨m, σi, S, hR, hs, h⟩ := h
  exact h m H (List.prefix_refl _) hR [] .nil
theorem cons_tI {Q : List V → Hp → Prop} (h : tIA K M0 (dCons da dr) σ H Q) : tCons (tI K M0 da) (tIA K M0 dr) σ H Q := by
  obtain ⟨m, σi, S, hR, hs, h⟩ := h
  refine ⟨m, σi, S, hR, hs, h.bind.imp fun m1 v S1 H1 p1 R1 h1 w rw => ?_⟩
  refine ⟨m1, σi, S1, R1, hs.mono p1, h1.bind.imp fun m2 v2 S2 H2 p2 R2 h2 ws rws => ?_⟩
  exact h2 m2 H2 (List.prefix_refl _) R2 (w :: ws) (.cons (rw.mono p2) rws)
theorem var_tI {i : Nat} (h : tI K M0 (dVar i) σ H Q) : tVar i σ H Q := by
  obtain ⟨m, σi, S, hR, hs, h⟩ := h
  unfold dVar at h
  split at h
  · rename_i v e
    obtain ⟨w, e', r⟩ := hs.2 i v e
    exact ⟨w, e', h m H (List.prefix_refl _) hR w r⟩
  · exact h.elim
theorem c_tI {v : IV} {w : V} (hr : ∀ m, M0 <+: m → Rv m v w) (h : tI K M0 (dC v) σ H Q) : tC w σ H Q := by
  obtain ⟨m, σi, S, hR, hs, h⟩ := h
  exact h m H (List.prefix_refl _) hR w (hr m hR.pre)
theorem tup_tI (h : tI K M0 (dTup dr) σ H Q) : tTup (tIA K M0 dr) σ H Q := by
  obtain ⟨m, σi, S, hR, hs, h⟩ := h
  refine ⟨m, σi, S, hR, hs, h.bind.imp fun m1 vs S1 H1 p1 R1 h1 ws rws => ?_⟩
  by_cases hl : vs.length ≤ 100000
  · rw [if_pos hl] at h1
    refine ⟨line_ok (by rw [← rws.length]; exact hl), fun p hp => ?_⟩
    exact h1 (m1 ++ [p]) _ (List.prefix_append _ _) (R1.put_tup hp rws) (.ref p) ⟨p, R1.new_at, rfl⟩
  · rw [if_neg hl] at h1; exact h1.elim
theorem lst_tI (h : tI K M0 (dLst dr) σ H Q) : tLst (tIA K M0 dr) σ H Q := by
  obtain ⟨m, σi, S, hR, hs, h⟩ := h
  refine ⟨m, σi, S, hR, hs, h.bind.imp fun m1 vs S1 H1 p1 R1 h1 ws rws => ?_⟩
  by_cases hl : vs.length ≤ 100000
  · rw [if_pos hl] at h1
    refine ⟨line_ok (by rw [← rws.length]; exact hl), fun p hp => ?_⟩
    exact h1 (m1 ++ [p]) _ (List.prefix_append _ _) (R1.put_lst hp rws) (.ref p) ⟨p, R1.new_at, rfl⟩
  · rw [if_neg hl] at h1; exact h1.elim
theorem andV_tI (h : tI K M0 (dAndV da db) σ H Q) : tAndV (tI K M0 da) (tI K M0 db) σ H Q := by
  obtain ⟨m, σi, S, hR, hs, h⟩ := h
  refine ⟨m, σi, S, hR, hs, h.bind.imp fun m1 v S1 H1 p1 R1 h1 w rw => ?_⟩
  cases v with
  | bl b =>
    cases b with
    | true => exact ⟨true, rw, ⟨m1, σi, S1, R1, hs.mono p1, h1⟩⟩
    | false => exact ⟨false, rw, h1 m1 H1 (List.prefix_refl _) R1 _ rfl⟩
  | _ => exact h1.elim
theorem orV_tI (h : tI K M0 (dOrV da db) σ H Q) : tOrV (tI K M0 da) (tI K M0 db) σ H Q := by
  obtain ⟨m, σi, S, hR, hs, h⟩ := h
  refine ⟨m, σi, S, hR, hs, h.bind.imp fun m1 v S1 H1 p1 R1 h1 w rw => ?_⟩
  cases v with
  | bl b =>
    cases b with
    | false => exact ⟨false, rw, ⟨m1, σi, S1, R1, hs.mono p1, h1⟩⟩
    | true => exact ⟨true, rw, h1 m1 H1 (List.prefix_refl _) R1 _ rfl⟩
  | _ => exact h1.elim
theorem notV_tI (h : tI K M0 (dNotV da) σ H Q) : tNotV (tI K M0 da) σ H Q := by
  obtain ⟨m, σi, S, hR, hs, h⟩ := h
  refine ⟨m, σi, S, hR, hs, h.bind.imp fun m1 v S1 H1 p1 R1 h1 w rw => ?_⟩
  cases v with
  | bl b => exact ⟨b, rw, h1 m1 H1 (List.prefix_refl _) R1 _ rfl⟩
  | _ => exact h1.elim
theorem if_tI (h : tI K M0 (dIf t da db) σ H Q) : tIf (tIT K M0 t) (tI K M0 da) (tI K M0 db) σ H Q := by
  obtain ⟨m, σi, S, hR, hs, h⟩ := h
  refine ⟨m, σi, S, hR, hs, h.bind.imp fun m1 b S1 H1 p1 R1 h1 => ?_⟩
  cases b with
  | true => rw [if_pos rfl]; exact ⟨m1, σi, S1, R1, hs.mono p1, h1⟩
  | false => rw [if_neg Bool.false_ne_true]; exact ⟨m1, σi, S1, R1, hs.mono p1, h1⟩
theorem call_tI {n : Nat} {f : Fn} (hn : ∀ ivs S, ivs.length ≠ n → f ivs S = .no) (h : tI K M0 (dCall f dr) σ H Q) : tCall (spI K M0 n f) [] E0 (tIA K M0 dr) σ H Q := by
  obtain ⟨m, σi, S, hR, hs, h⟩ := h
  refine ⟨m, σi, S, hR, hs, h.bind.imp fun m1 vs S1 H1 p1 R1 h1 ws rws => ?_⟩
  show spI K M0 n f (ws ++ []) H1 Q E0
  rw [List.append_nil]
  refine ⟨?_, m1, vs, S1, R1, rws, h1⟩
  rw [← rws.length]
  by_cases e : vs.length = n
  · exact e
  · rw [hn vs S1 e] at h1; exact h1.elim
theorem callB_tI {r : List V → Hp → VK → Prop} {f : Fn} (hf : CallI K M0 r f) (h : tI K M0 (dCall f dr) σ H Q) : tCB r (tIA K M0 dr) σ H Q := by
  obtain ⟨m, σi, S, hR, hs, h⟩ := h
  exact ⟨m, σi, S, hR, hs, h.bind.imp fun m1 vs S1 H1 p1 R1 h1 ws rws => hf m1 S1 H1 ws vs Q R1 rws h1⟩
theorem chain_tI {r r' : R2} {f g : IV → IV → Sto → R3 IV} (hf : OpI K M0 r f) (hg : OpI K M0 r' g) (h : tI K M0 (dChain f g da db dc) σ H Q) : tChain r r' (tI K M0 da) (tI K M0 db) (tI K M0 dc) σ H Q := by
  obtain ⟨m, σi, S, hR, hs, h⟩ := h
  refine ⟨m, σi, S, hR, hs, h.bind.imp fun m1 v S1 H1 p1 R1 h1 w rw => ?_⟩
  refine ⟨m1, σi, S1, R1, hs.mono p1, h1.bind.imp fun m2 v2 S2 H2 p2 R2 h2 w2 rw2 => ?_⟩
  refine hf m2 S2 H2 w w2 v v2 _ R2 (rw.mono p2) rw2 (h2.bind.imp fun m3 v3 S3 H3 p3 R3 h3 z rz => ?_)
  cases v3 with
  | bl b =>
    refine ⟨b, rz, ?_⟩
    cases b with
    | true =>
      rw [if_pos rfl]
      refine ⟨m3, σi, S3, R3, (hs.mono p1).mono (p2.trans p3), h3.bind.imp fun m4 v4 S4 H4 p4 R4 h4 w4 rw4 => ?_⟩
      exact hg m4 S4 H4 w2 w4 v2 v4 Q R4 ((rw2.mono p3).mono p4) rw4 h4
    | false =>
      rw [if_neg Bool.false_ne_true]
      exact h3 m3 H3 (List.prefix_refl _) R3 _ rfl
  | _ => exact h3.elim
theorem perm_rel {m : List Addr} {vs : List IV} {ws : List V} (r : Rvs m vs ws) : ∀ perm : List Nat, Rvs m (perm.filterMap fun i => vs[i]?) (perm.filterMap fun i => ws[i]?)
  | [] => .nil
  | i :: perm => by
    have ih := perm_rel r perm
    have : ∀ {vs : List IV} {ws : List V} (i : Nat), Rvs m vs ws → (vs[i]? = none ∧ ws[i]? = none) ∨ ∃ v w, vs[i]? = some v ∧ ws[i]? = some w ∧ Rv m v w := by
      intro vs ws i r
      induction r generalizing i with
      | nil => exact .inl ⟨by simp, by simp⟩
      | cons h t ih =>
        cases i with
        | zero => exact .inr ⟨_, _, by simp, by simp, h⟩
        | succ i => simpa using ih i
    rcases this i r with ⟨e1, e2⟩ | ⟨v, w, e1, e2, q⟩
    · rw [List.filterMap_cons_none e1, List.filterMap_cons_none e2]; exact ih
    · rw [List.filterMap_cons_some e1, List.filterMap_cons_some e2]; exact .cons q ih
theorem append_rel {m : List Addr} {vs vs' : List IV} {ws ws' : List V} (r : Rvs m vs ws) (r' : Rvs m vs' ws') : Rvs m (vs ++ vs') (ws ++ ws') := by
  induction r with
  | nil => exact r'
  | cons h t ih => exact .cons h ih
theorem callK_tI {n : Nat} {f : Fn} {perm : List Nat} {dk : DA} (hn : ∀ ivs S, ivs.length ≠ n → f ivs S = .no) (h : tI K M0 (dCallK f perm dr dk) σ H Q) :
    tCallK (spI K M0 n f) (fun vs zs => perm.filterMap fun i => (vs ++ zs)[i]?) E0 (tIA K M0 dr) (tIA K M0 dk) σ H Q := by
  obtain ⟨m, σi, S, hR, hs, h⟩ := h
  refine ⟨m, σi, S, hR, hs, h.bind.imp fun m1 vs S1 H1 p1 R1 h1 ws rws => ?_⟩
  refine ⟨m1, σi, S1, R1, hs.mono p1, h1.bind.imp fun m2 zs S2 H2 p2 R2 h2 us rus => ?_⟩
  have q := perm_rel (append_rel (rws.mono p2) rus) perm
  refine ⟨?_, m2, _, S2, R2, q, h2⟩
  rw [← q.length]
  by_cases e : (perm.filterMap fun i => (vs ++ zs)[i]?).length = n
  · exact e
  · rw [hn _ S2 e] at h2; exact h2.elim
end
end RI
set_option maxRecDepth 100000
namespace RI
open PySem L2

/-! ### tests -/
def dtVal (d : DE) : DT := fun σ S => (d σ S).bind fun x S1 => match x with | .bl b => .ok b S1 | _ => .no
def truI (x : IV) (S : Sto) : Option Bool := match x with
  | .non => some false
  | .bl b => some b
  | .int i => some (i != 0)
  | .ref l => match S.get l with
    | some (.lst xs) => some (!xs.isEmpty)
    | some (.tup xs) => some (!xs.isEmpty)
    | some (.fl xs) => some (!xs.isEmpty)
    | _ => none
  | _ => none
def dtTru (d : DE) : DT := fun σ S => (d σ S).bind fun x S1 => match truI x S1 with | some b => .ok b S1 | none => .no
def dtAnd (t u : DT) : DT := fun σ S => (t σ S).bind fun b S1 => match b with | true => u σ S1 | false => .ok false S1
def dtOr (t u : DT) : DT := fun σ S => (t σ S).bind fun b S1 => match b with | true => .ok true S1 | false => u σ S1
def dtNot (t : DT) : DT := fun σ S => (t σ S).bind fun b S1 => .ok (!b) S1
def dtYes : DT := fun _ S => .ok true S

section
variable {K : PySem.W.Frag} {M0 : List Addr} {σ : L2.St} {H : Hp} {Q : Bool → Hp → Prop} {d : DE} {t u : DT}
theorem val_tT (h : tIT K M0 (dtVal d) σ H Q) : tB (tI K M0 d) σ H Q := by
  obtain ⟨m, σi, S, hR, hs, h⟩ := h
  refine ⟨m, σi, S, hR, hs, h.bind.imp fun m1 v S1 H1 p1 R1 h1 w rw => ?_⟩
  cases v with
  | bl b => exact ⟨b, rw, h1 m1 H1 (List.prefix_refl _) R1⟩
  | _ => exact h1.elim
theorem test_tT (h : tIT K M0 (dtVal d) σ H Q) : tTest (tI K M0 d) σ H Q := val_tT h
theorem isEmpty_rel {m : List Addr} {xs : List IV} {ys : List V} (r : Rvs m xs ys) : xs.isEmpty = ys.isEmpty := by cases r <;> rfl
theorem tru_rel {m : List Addr} {S : Sto} {v : IV} {w : V} {b : Bool} (hR : R K M0 m S H) (r : Rv m v w) (e : truI v S = some b) : TruV K w H b := by
  unfold truI at e
  cases v with
  | non => cases r; cases e; rfl
  | bl c => cases r; cases e; rfl
  | int i => cases r; cases e; rfl
  | ref l =>
    obtain ⟨a, ha, rfl⟩ := r
    simp only at e
    cases g : S.get l with
    | none => rw [g] at e; cases e
    | some o =>
      rw [g] at e
      obtain ⟨a', ha', q⟩ := hR.obj l o g
      rw [ha] at ha'; cases ha'
      cases o with
      | lst xs => obtain ⟨ys, e1, r1⟩ := q; cases e; exact .inl ⟨ys, .of e1, by rw [isEmpty_rel r1]⟩
      | tup xs => obtain ⟨ys, e1, r1⟩ := q; cases e; exact .inr (.inl ⟨ys, e1, by rw [isEmpty_rel r1]⟩)
      | fl xs => obtain ⟨ys, e1, r1⟩ := q; cases e; exact .inl ⟨ys, e1.l, by rw [isEmpty_rel r1]⟩
  | _ => cases e
theorem tru_tT (h : tIT K M0 (dtTru d) σ H Q) : tI K M0 d σ H fun x H' => ∃ k, TruV K x H' k ∧ Q k H' := by
  obtain ⟨m, σi, S, hR, hs, h⟩ := h
  refine ⟨m, σi, S, hR, hs, h.bind.imp fun m1 v S1 H1 p1 R1 h1 w rw => ?_⟩
  cases e : truI v S1 with
  | none => rw [e] at h1; exact h1.elim
  | some b =>
    rw [e] at h1
    exact ⟨b, tru_rel R1 rw e, h1 m1 H1 (List.prefix_refl _) R1⟩
theorem and_tT (h : tIT K M0 (dtAnd t u) σ H Q) : tAnd (tIT K M0 t) (tIT K M0 u) σ H Q := by
  obtain ⟨m, σi, S, hR, hs, h⟩ := h
  refine ⟨m, σi, S, hR, hs, h.bind.imp fun m1 b S1 H1 p1 R1 h1 => ?_⟩
  cases b with
  | true => rw [if_pos rfl]; exact ⟨m1, σi, S1, R1, hs.mono p1, h1⟩
  | false => rw [if_neg Bool.false_ne_true]; exact h1 m1 H1 (List.prefix_refl _) R1
theorem or_tT (h : tIT K M0 (dtOr t u) σ H Q) : tOr (tIT K M0 t) (tIT K M0 u) σ H Q := by
  obtain ⟨m, σi, S, hR, hs, h⟩ := h
  refine ⟨m, σi, S, hR, hs, h.bind.imp fun m1 b S1 H1 p1 R1 h1 => ?_⟩
  cases b with
  | true => rw [if_pos rfl]; exact h1 m1 H1 (List.prefix_refl _) R1
  | false => rw [if_neg Bool.false_ne_true]; exact ⟨m1, σi, S1, R1, hs.mono p1, h1⟩
theorem not_tT (h : tIT K M0 (dtNot t) σ H Q) : tNot (tIT K M0 t) σ H Q := by
  obtain ⟨m, σi, S, hR, hs, h⟩ := h
  exact ⟨m, σi, S, hR, hs, h.bind.imp fun m1 b S1 H1 p1 R1 h1 => h1 m1 H1 (List.prefix_refl _) R1⟩
theorem yes_tT (h : tIT K M0 dtYes σ H Q) : tYes σ H Q := by
  obtain ⟨m, σi, S, hR, hs, h⟩ := h
  exact h m H (List.prefix_refl _) hR
end

/-! ### statements -/
inductive RS where
  | nx (σ : Sl) (S : Sto) | rt (v : IV) (S : Sto) | bk (σ : Sl) (S : Sto) | ct (σ : Sl) (S : Sto) | no
abbrev DS := Sl → Sto → RS

def SatS (K : PySem.W.Frag) (M0 m : List Addr) (r : RS) (D : Ends) : Prop := match r with
  | .nx σi S => ∀ m' H σ, m <+: m' → R K M0 m' S H → Rs m' σi σ → D.nx σ H
  | .rt v S => ∀ m' H w, m <+: m' → R K M0 m' S H → Rv m' v w → D.rt w H
  | .bk σi S => ∀ m' H σ, m <+: m' → R K M0 m' S H → Rs m' σi σ → D.bk σ H
  | .ct σi S => ∀ m' H σ, m <+: m' → R K M0 m' S H → Rs m' σi σ → D.ct σ H
  | .no => False
theorem SatS.mono {K : PySem.W.Frag} {M0 m m1 : List Addr} {r : RS} {D : Ends} (p : m <+: m1) (h : SatS K M0 m r D) : SatS K M0 m1 r D := by
  cases r with
  | nx σi S => exact fun m' H σ q => h m' H σ (p.trans q)
  | rt v S => exact fun m' H σ q => h m' H σ (p.trans q)
  | bk σi S => exact fun m' H σ q => h m' H σ (p.trans q)
  | ct σi S => exact fun m' H σ q => h m' H σ (p.trans q)
  | no => exact h
def tIS (K : PySem.W.Frag) (M0 : List Addr) (d : DS) : TS := fun D σ H => ∃ m σi S, R K M0 m S H ∧ Rs m σi σ ∧ SatS K M0 m (d σi S) D

/-- names that are stored to -/
inductive TgI where
  | nm (j : Nat) | tp (js : List Nat)
def setAll (σ : Sl) : List Nat → List IV → Sl
  | j :: js, v :: vs => setAll (σ.set j (some v)) js vs
  | _, _ => σ
def asgT (t : TgI) (v : IV) (σ : Sl) (S : Sto) : Option Sl := match t with
  | .nm j => some (σ.set j (some v))
  | .tp js => match v with
    | .ref l => match S.get l with
      | some (.tup xs) => if xs.length = js.length then some (setAll σ js xs) else none
      | _ => none
    | _ => none
def gNames : List Nat → TGs
  | [] => gNil
  | j :: js => gCons (gName j) (gNames js)
def tgT (K : PySem.W.Frag) : TgI → TG
  | .nm j => gName j
  | .tp js => gTup K js.length (gNames js)
def TgI.slots : TgI → List Nat
  | .nm j => [j]
  | .tp js => js

def dNext : DS := fun σ S => .nx σ S
def dNever : DS := fun _ _ => .no
def dSeq (a b : DS) : DS := fun σ S => match a σ S with | .nx σ' S' => b σ' S' | .rt v S' => .rt v S' | .bk σ' S' => .bk σ' S' | .ct σ' S' => .ct σ' S' | .no => .no
def dAsg (d : DE) (t : TgI) : DS := fun σ S => match d σ S with | .ok v S' => (match asgT t v σ S' with | some σ' => .nx σ' S' | none => .no) | .no => .no
def dExpr (d : DE) : DS := fun σ S => match d σ S with | .ok _ S' => .nx σ S' | .no => .no
def dRet (d : DE) : DS := fun σ S => match d σ S with | .ok v S' => .rt v S' | .no => .no
def dIfS (t : DT) (a b : DS) : DS := fun σ S => match t σ S with | .ok true S' => a σ S' | .ok false S' => b σ S' | .no => .no
def dBreak : DS := fun σ S => .bk σ S
def dCont : DS := fun σ S => .ct σ S
def dPar (i j : Nat) (d : DA) : DS := fun σ S => match d σ S with | .ok [v, w] S' => .nx ((σ.set i (some v)).set j (some w)) S' | _ => .no
def dAug (i : Nat) (f : IV → IV → Sto → R3 IV) (d : DE) : DS := fun σ S => match σ[i]? with
  | some (some x) => (match d σ S with | .ok y S1 => (match f x y S1 with | .ok z S2 => .nx (σ.set i (some z)) S2 | .no => .no) | .no => .no)
  | _ => .no
def whileI (t : DT) (b : DS) : Nat → DS
  | 0, _, _ => .no
  | n + 1, σ, S => match t σ S with
    | .ok true S1 => (match b σ S1 with
      | .nx σ' S' => whileI t b n σ' S' | .ct σ' S' => whileI t b n σ' S' | .bk σ' S' => .nx σ' S' | .rt v S' => .rt v S' | .no => .no)
    | .ok false S1 => .nx σ S1
    | .no => .no

section
variable {K : PySem.W.Frag} {M0 : List Addr} {σ : L2.St} {H : Hp} {D : Ends} {d : DE} {t : DT} {a b : DS}
theorem next_tS (h : tIS K M0 dNext D σ H) : tNext D σ H := by
  obtain ⟨m, σi, S, hR, hs, h⟩ := h
  exact h m H σ (List.prefix_refl _) hR hs
theorem break_tS (h : tIS K M0 dBreak D σ H) : tBreak D σ H := by
  obtain ⟨m, σi, S, hR, hs, h⟩ := h
  exact h m H σ (List.prefix_refl _) hR hs
theorem cont_tS (h : tIS K M0 dCont D σ H) : tCont D σ H := by
  obtain ⟨m, σi, S, hR, hs, h⟩ := h
  exact h m H σ (List.prefix_refl _) hR hs
theorem never_tS (h : tIS K M0 dNever D σ H) : tNever D σ H := by
  obtain ⟨m, σi, S, hR, hs, h⟩ := h
  exact h.elim
theorem seq_tS (h : tIS K M0 (dSeq a b) D σ H) : tSeq (tIS K M0 a) (tIS K M0 b) D σ H := by
  obtain ⟨m, σi, S, hR, hs, h⟩ := h
  refine ⟨m, σi, S, hR, hs, ?_⟩
  unfold dSeq at h
  cases e : a σi S with
  | nx σ' S' =>
    rw [e] at h
    exact fun m' H' σ1 p R1 s1 => ⟨m', σ', S', R1, s1, SatS.mono (r := b σ' S') p h⟩
  | rt v S' => rw [e] at h; exact h
  | bk σ' S' => rw [e] at h; exact h
  | ct σ' S' => rw [e] at h; exact h
  | no => rw [e] at h; exact h
theorem names_go {m : List Addr} {Q : St → Hp → Prop} : ∀ {js : List Nat} {xs : List IV} {ys : List V} {σi : Sl} {σ : St}, Rvs m xs ys → xs.length = js.length → Rs m σi σ →
    (∀ σ', Rs m (setAll σi js xs) σ' → (∀ vs : List Nat, (∀ j ∈ js, j ∈ vs) → wipe σ' vs = wipe σ vs) → Q σ' H) → gNames js ys σ H Q
  | [], _, _, σi, σ, .nil, _, hs, k => ⟨rfl, k σ hs fun _ _ => rfl⟩
  | [], _, _, _, _, .cons _ _, e, _, _ => by simp at e
  | j :: js, _, _, _, _, .nil, e, _, _ => by simp at e
  | j :: js, x :: xs, y :: ys, σi, σ, .cons r t, e, hs, k => by
    refine ⟨y, ys, rfl, ?_⟩
    refine names_go t (by simpa using e) (hs.set r j) fun σ' r' w' => k σ' r' fun vs hv => ?_
    rw [w' vs fun q hq => hv q (List.mem_cons_of_mem _ hq)]
    exact wipe_set (hv j List.mem_cons_self)
where
  wipe_set {σ : St} {x : Option V} {j : Nat} : ∀ {vs : List Nat}, j ∈ vs → wipe (σ.set j x) vs = wipe σ vs := by
    have comm : ∀ (vs : List Nat), j ∉ vs → wipe (σ.set j x) vs = (wipe σ vs).set j x := by
      intro vs
      induction vs with
      | nil => intro _; rfl
      | cons v vs ih =>
        intro h
        simp only [List.mem_cons, not_or] at h
        show (wipe (σ.set j x) vs).set v none = ((wipe σ vs).set v none).set j x
        rw [ih h.2, List.set_comm _ _ h.1]
    intro vs
    induction vs with
    | nil => intro h; cases h
    | cons v vs ih =>
      intro h
      show (wipe (σ.set j x) vs).set v none = (wipe σ vs).set v none
      by_cases hj : j ∈ vs
      · rw [ih hj]
      · rcases List.mem_cons.mp h with e | e
        · subst e
          rw [comm vs hj, List.set_set]
        · exact absurd e hj
theorem asg_go {m : List Addr} {S : Sto} {t : TgI} {v : IV} {w : V} {σi σi' : Sl} {Q : St → Hp → Prop} (hR : R K M0 m S H) (r : Rv m v w) (hs : Rs m σi σ) (e : asgT t v σi S = some σi')
    (k : ∀ σ', Rs m σi' σ' → (∀ vs : List Nat, (∀ j ∈ t.slots, j ∈ vs) → wipe σ' vs = wipe σ vs) → Q σ' H) : tgT K t w σ H Q := by
  cases t with
  | nm j =>
    cases e
    exact k _ (hs.set r j) fun vs hv => names_go.wipe_set (hv j (by simp [TgI.slots]))
  | tp js =>
    unfold asgT at e
    cases v with
    | ref l =>
      simp only at e
      obtain ⟨p, hp, rfl⟩ := r
      cases g : S.get l with
      | none => rw [g] at e; cases e
      | some o =>
        rw [g] at e
        cases o with
        | tup xs =>
          simp only at e
          split at e
          · rename_i hl
            cases e
            obtain ⟨p', hp', ys, e1, r1⟩ := hR.obj l _ g
            rw [hp] at hp'; cases hp'
            exact ⟨p, ys, rfl, e1, by rw [← r1.length]; exact hl, names_go r1 hl hs k⟩
          · cases e
        | _ => cases e
    | _ => cases e
theorem asg_tS {tg : TgI} (h : tIS K M0 (dAsg d tg) D σ H) : tAsg (tI K M0 d) (tgT K tg) D σ H := by
  obtain ⟨m, σi, S, hR, hs, h⟩ := h
  refine ⟨m, σi, S, hR, hs, ?_⟩
  unfold dAsg at h
  cases e : d σi S with
  | no => rw [e] at h; exact h.elim
  | ok v S' =>
    rw [e] at h
    intro m' H' p R' w r
    cases e2 : asgT tg v σi S' with
    | none => simp only [e2] at h; exact h.elim
    | some σ' =>
      simp only [e2] at h
      exact asg_go R' r (hs.mono p) e2 fun σ1 r1 _ => h m' H' σ1 p R' r1
theorem expr_tS (h : tIS K M0 (dExpr d) D σ H) : tDrop (tI K M0 d) D σ H := by
  obtain ⟨m, σi, S, hR, hs, h⟩ := h
  refine ⟨m, σi, S, hR, hs, ?_⟩
  unfold dExpr at h
  cases e : d σi S with
  | no => rw [e] at h; exact h.elim
  | ok v S' =>
    rw [e] at h
    exact fun m' H' p R' w r => h m' H' σ p R' (hs.mono p)
theorem ret_tS (h : tIS K M0 (dRet d) D σ H) : tRet (tI K M0 d) D σ H := by
  obtain ⟨m, σi, S, hR, hs, h⟩ := h
  refine ⟨m, σi, S, hR, hs, ?_⟩
  unfold dRet at h
  cases e : d σi S with
  | no => rw [e] at h; exact h.elim
  | ok v S' =>
    rw [e] at h
    exact fun m' H' p R' w r => h m' H' w p R' r
theorem if_tS (h : tIS K M0 (dIfS t a b) D σ H) : tIfS (tIT K M0 t) (tIS K M0 a) (tIS K M0 b) D σ H := by
  obtain ⟨m, σi, S, hR, hs, h⟩ := h
  refine ⟨m, σi, S, hR, hs, ?_⟩
  unfold dIfS at h
  cases e : t σi S with
  | no => rw [e] at h; exact h.elim
  | ok c S' =>
    rw [e] at h
    intro m' H' p R'
    cases c with
    | true => rw [if_pos rfl]; exact ⟨m', σi, S', R', hs.mono p, SatS.mono (r := a σi S') p h⟩
    | false => rw [if_neg Bool.false_ne_true]; exact ⟨m', σi, S', R', hs.mono p, SatS.mono (r := b σi S') p h⟩
theorem par_tS {i j : Nat} {da : DA} (h : tIS K M0 (dPar i j da) D σ H) : tPar i j (tIA K M0 da) D σ H := by
  obtain ⟨m, σi, S, hR, hs, h⟩ := h
  refine ⟨m, σi, S, hR, hs, ?_⟩
  unfold dPar at h
  cases e : da σi S with
  | no => rw [e] at h; exact h.elim
  | ok vs S' =>
    rw [e] at h
    intro m' H' p R' ws r
    match vs, ws, r, h with
    | [v1, v2], _, .cons r1 (.cons r2 .nil), h => exact ⟨_, _, rfl, h m' H' _ p R' (((hs.mono p).set r1 i).set r2 j)⟩
theorem aug_tS {i : Nat} {f : IV → IV → Sto → R3 IV} {tp : TIp} (hop : OpI K M0 tp f) (h : tIS K M0 (dAug i f d) D σ H) : tAug i (tI K M0 d) tp D σ H := by
  obtain ⟨m, σi, S, hR, hs, h⟩ := h
  unfold dAug at h
  cases e0 : σi[i]? with
  | none => rw [e0] at h; exact h.elim
  | some ov =>
    cases ov with
    | none => rw [e0] at h; exact h.elim
    | some x =>
      rw [e0] at h
      obtain ⟨w0, ew, rw0⟩ := hs.2 i x e0
      refine ⟨w0, ew, m, σi, S, hR, hs, ?_⟩
      simp only at h
      cases e : d σi S with
      | no => rw [e] at h; exact h.elim
      | ok y S1 =>
        simp only [e] at h
        intro m1 H1 p1 R1 w1 r1
        refine hop m1 S1 H1 w0 w1 x y _ R1 (rw0.mono p1) r1 ?_
        cases e2 : f x y S1 with
        | no => simp only [e2] at h; exact h.elim
        | ok z S2 =>
          simp only [e2] at h
          exact fun m2 H2 p2 R2 w2 r2 => h m2 H2 _ (p1.trans p2) R2 (((hs.mono p1).mono p2).set r2 i)
theorem while_tS {n : Nat} (h : tIS K M0 (whileI t b n) D σ H) : tWhile (tIT K M0 t) (tIS K M0 b) D σ H := by
  refine ⟨fun n σ H => tIS K M0 (whileI t b n) D σ H, ⟨n, h⟩, fun n σ H h => ?_⟩
  obtain ⟨m, σi, S, hR, hs, h⟩ := h
  refine ⟨m, σi, S, hR, hs, ?_⟩
  cases n with
  | zero => exact h.elim
  | succ n =>
    unfold whileI at h
    cases e : t σi S with
    | no => rw [e] at h; exact h.elim
    | ok c S1 =>
      rw [e] at h
      intro m1 H1 p1 R1
      cases c with
      | false => rw [if_neg Bool.false_ne_true]; exact h m1 H1 σ p1 R1 (hs.mono p1)
      | true =>
        rw [if_pos rfl]
        refine ⟨fun σ' H' => tIS K M0 (whileI t b n) D σ' H', fun σ' H' q => ⟨n, Nat.lt_succ_self n, q⟩, m1, σi, S1, R1, hs.mono p1, ?_⟩
        simp only at h
        cases e2 : b σi S1 with
        | no => rw [e2] at h; exact h.elim
        | nx σ' S' => rw [e2] at h; exact fun m2 H2 σ2 p2 R2 s2 => ⟨m2, σ', S', R2, s2, SatS.mono (r := whileI t b n σ' S') (p1.trans p2) h⟩
        | ct σ' S' => rw [e2] at h; exact fun m2 H2 σ2 p2 R2 s2 => ⟨m2, σ', S', R2, s2, SatS.mono (r := whileI t b n σ' S') (p1.trans p2) h⟩
        | bk σ' S' => rw [e2] at h; exact fun m2 H2 σ2 p2 R2 s2 => h m2 H2 σ2 (p1.trans p2) R2 s2
        | rt v S' => rw [e2] at h; exact fun m2 H2 w2 p2 R2 s2 => h m2 H2 w2 (p1.trans p2) R2 s2
end
end RI
set_option maxRecDepth 100000
namespace RI
open PySem PySem.Spec PyProof.Rows L2 RZ

/-! ### what is walked -/
inductive ItI where
  | lst (l : Nat) | tup (l : Nat) | rng (lo : Int) (n : Nat) | zip (a b : Nat) | zipT (a b : Nat) | enm (a : Nat)
def getL (S : Sto) (l : Nat) : Option (List IV) := match S.get l with | some (.lst xs) => some xs | some (.fl xs) => some xs | _ => none
def getT (S : Sto) (l : Nat) : Option (List IV) := match S.get l with | some (.tup xs) => some xs | _ => none
/-- none: no answer; some none: the end -/
def stepI (it : ItI) (i : Nat) (S : Sto) : Option (Option (IV × Sto)) := match it with
  | .lst l => match getL S l with | some xs => some (match xs[i]? with | some v => some (v, S) | none => none) | none => none
  | .tup l => match getT S l with | some xs => some (match xs[i]? with | some v => some (v, S) | none => none) | none => none
  | .rng lo n => if i < n then some (some (.int (lo + (i : Int)), S)) else some none
  | .zip a b => match getL S a with
    | some xs => match getL S b with
      | some ys => some (match xs[i]? with | some x => (match ys[i]? with | some y => some (.ref S.n, S.put (.tup [x, y])) | none => none) | none => none)
      | none => none
    | none => none
  | .zipT a b => match getT S a with
    | some xs => match getT S b with
      | some ys => some (match xs[i]? with | some x => (match ys[i]? with | some y => some (.ref S.n, S.put (.tup [x, y])) | none => none) | none => none)
      | none => none
    | none => none
  | .enm a => match getL S a with
    | some xs => some (match xs[i]? with | some x => some (.ref S.n, S.put (.tup [.int (i : Int), x])) | none => none)
    | none => none
/-- turns enough, if nothing grows -/
def fuelI (it : ItI) (S : Sto) : Nat := match it with
  | .lst l => match getL S l with | some xs => xs.length + 1 | none => 0
  | .tup l => match getT S l with | some xs => xs.length + 1 | none => 0
  | .rng _ n => n + 1
  | .zip a _ => match getL S a with | some xs => xs.length + 1 | none => 0
  | .zipT a _ => match getT S a with | some xs => xs.length + 1 | none => 0
  | .enm a => match getL S a with | some xs => xs.length + 1 | none => 0
abbrev DI := Sl → Sto → R3 ItI

def Good (K : PySem.W.Frag) (M0 m : List Addr) (it : ItI) (J : It) : Prop := ∀ (m' : List Addr) (S : Sto) (H : Hp) (i : Nat), m <+: m' → R K M0 m' S H → match stepI it i S with
  | none => True
  | some none => J.stop i H
  | some (some (v, S')) => J.go i H ∧ ∀ x H', J.yld i H x H' → ∃ m'', m' <+: m'' ∧ R K M0 m'' S' H' ∧ Rv m'' v x
theorem Good.mono {K : PySem.W.Frag} {M0 m m1 : List Addr} {it : ItI} {J : It} (p : m <+: m1) (h : Good K M0 m it J) : Good K M0 m1 it J := fun m' S H i q => h m' S H i (p.trans q)
def tII (K : PySem.W.Frag) (M0 : List Addr) (d : DI) : TI := fun σ H R' => ∃ m σi S, R K M0 m S H ∧ Rs m σi σ ∧ Sat K M0 m (d σi S) fun m' it _ H' => ∀ J, Good K M0 m' it J → R' J H'

section
variable {K : PySem.W.Frag} {M0 m : List Addr} {S : Sto} {H : Hp}
theorem R.getL (h : R K M0 m S H) {l : Nat} {xs : List IV} {a : Addr} (e : getL S l = some xs) (f : m[l]? = some a) : ∃ ys, SqL K H a ys ∧ Rvs m xs ys := by
  unfold RI.getL at e
  split at e
  · rename_i zs g
    cases e
    obtain ⟨a', f', ys, e1, r⟩ := h.obj l _ g
    rw [f] at f'; cases f'
    exact ⟨ys, .of e1, r⟩
  · rename_i zs g
    cases e
    obtain ⟨a', f', ys, e1, r⟩ := h.obj l _ g
    rw [f] at f'; cases f'
    exact ⟨ys, e1.l, r⟩
  · cases e
theorem R.getT (h : R K M0 m S H) {l : Nat} {xs : List IV} {a : Addr} (e : getT S l = some xs) (f : m[l]? = some a) : ∃ ys, SqT K H a ys ∧ Rvs m xs ys := by
  unfold RI.getT at e
  split at e
  · rename_i zs g
    cases e
    obtain ⟨a', f', ys, e1, r⟩ := h.obj l _ g
    rw [f] at f'; cases f'
    exact ⟨ys, e1, r⟩
  · cases e
theorem Rvs.at {xs : List IV} {ys : List V} (r : Rvs m xs ys) (i : Nat) : (xs[i]? = none ∧ ys[i]? = none) ∨ ∃ v w, xs[i]? = some v ∧ ys[i]? = some w ∧ Rv m v w := by
  induction r generalizing i with
  | nil => exact .inl ⟨by simp, by simp⟩
  | cons h t ih =>
    cases i with
    | zero => exact .inr ⟨_, _, by simp, by simp, h⟩
    | succ i => simpa using ih i
theorem good_lst {l : Nat} {a : Addr} (f : m[l]? = some a) : Good K M0 m (.lst l) (Itl K a) := by
  intro m' S H i p hR
  cases e : getL S l with
  | none => simp only [stepI, e]
  | some xs =>
    obtain ⟨ys, hs, r⟩ := hR.getL e (pre_get p f)
    rcases r.at i with ⟨e1, e2⟩ | ⟨v, w, e1, e2, q⟩
    · simp only [stepI, e, e1]
      exact ⟨ys, hs, List.getElem?_eq_none_iff.mp e2⟩
    · simp only [stepI, e, e1]
      refine ⟨⟨ys, w, hs, e2⟩, fun x H' ⟨eH, hx⟩ => ⟨m', List.prefix_refl _, eH ▸ hR, ?_⟩⟩
      have := hx ys hs
      rw [e2] at this; cases this
      exact q
theorem good_tup {l : Nat} {a : Addr} (f : m[l]? = some a) : Good K M0 m (.tup l) (Itt K a) := by
  intro m' S H i p hR
  cases e : getT S l with
  | none => simp only [stepI, e]
  | some xs =>
    obtain ⟨ys, hs, r⟩ := hR.getT e (pre_get p f)
    rcases r.at i with ⟨e1, e2⟩ | ⟨v, w, e1, e2, q⟩
    · simp only [stepI, e, e1]
      exact ⟨ys, hs, List.getElem?_eq_none_iff.mp e2⟩
    · simp only [stepI, e, e1]
      refine ⟨⟨ys, w, hs, e2⟩, fun x H' ⟨eH, hx⟩ => ⟨m', List.prefix_refl _, eH ▸ hR, ?_⟩⟩
      have := hx ys hs
      rw [e2] at this; cases this
      exact q
theorem good_rng {lo : Int} {n : Nat} : Good K M0 m (.rng lo n) (Itr lo n) := by
  intro m' S H i p hR
  by_cases h : i < n
  · simp only [stepI, if_pos h]
    exact ⟨h, fun x H' ⟨eH, hx⟩ => ⟨m', List.prefix_refl _, eH ▸ hR, hx⟩⟩
  · simp only [stepI, if_neg h]
    exact Nat.le_of_not_lt h
theorem good_zip {la lb : Nat} {a b : Addr} (fa : m[la]? = some a) (fb : m[lb]? = some b) : Good K M0 m (.zip la lb) (Itz K a b) := by
  intro m' S H i p hR
  cases ea : getL S la with
  | none => simp only [stepI, ea]
  | some xs =>
    cases eb : getL S lb with
    | none => simp only [stepI, ea, eb]
    | some ys =>
      obtain ⟨us, hu, ru⟩ := hR.getL ea (pre_get p fa)
      obtain ⟨ws, hw, rw'⟩ := hR.getL eb (pre_get p fb)
      rcases ru.at i with ⟨e1, e2⟩ | ⟨v, w, e1, e2, q⟩
      · simp only [stepI, ea, eb, e1]
        exact ⟨us, ws, hu, hw, .inl (List.getElem?_eq_none_iff.mp e2)⟩
      · rcases rw'.at i with ⟨f1, f2⟩ | ⟨v', w', f1, f2, q'⟩
        · simp only [stepI, ea, eb, e1, f1]
          exact ⟨us, ws, hu, hw, .inr (List.getElem?_eq_none_iff.mp f2)⟩
        · simp only [stepI, ea, eb, e1, f1]
          refine ⟨⟨us, ws, w, w', hu, hw, e2, f2⟩, fun x H' ⟨T, x1, y1, ex, nT, eH, h1, h2⟩ => ?_⟩
          have g1 := h1 us hu
          have g2 := h2 ws hw
          rw [e2] at g1; cases g1
          rw [f2] at g2; cases g2
          subst ex eH
          exact ⟨m' ++ [T], List.prefix_append _ _, hR.put_tup nT (.cons q (.cons q' .nil)), T, hR.new_at, rfl⟩
theorem good_zipT {la lb : Nat} {a b : Addr} (fa : m[la]? = some a) (fb : m[lb]? = some b) : Good K M0 m (.zipT la lb) (ItzT K a b) := by
  intro m' S H i p hR
  cases ea : getT S la with
  | none => simp only [stepI, ea]
  | some xs =>
    cases eb : getT S lb with
    | none => simp only [stepI, ea, eb]
    | some ys =>
      obtain ⟨us, hu, ru⟩ := hR.getT ea (pre_get p fa)
      obtain ⟨ws, hw, rw'⟩ := hR.getT eb (pre_get p fb)
      rcases ru.at i with ⟨e1, e2⟩ | ⟨v, w, e1, e2, q⟩
      · simp only [stepI, ea, eb, e1]
        exact ⟨us, ws, hu, hw, .inl (List.getElem?_eq_none_iff.mp e2)⟩
      · rcases rw'.at i with ⟨f1, f2⟩ | ⟨v', w', f1, f2, q'⟩
        · simp only [stepI, ea, eb, e1, f1]
          exact ⟨us, ws, hu, hw, .inr (List.getElem?_eq_none_iff.mp f2)⟩
        · simp only [stepI, ea, eb, e1, f1]
          refine ⟨⟨us, ws, w, w', hu, hw, e2, f2⟩, fun x H' ⟨T, x1, y1, ex, nT, eH, h1, h2⟩ => ?_⟩
          have g1 := h1 us hu
          have g2 := h2 ws hw
          rw [e2] at g1; cases g1
          rw [f2] at g2; cases g2
          subst ex eH
          exact ⟨m' ++ [T], List.prefix_append _ _, hR.put_tup nT (.cons q (.cons q' .nil)), T, hR.new_at, rfl⟩
theorem good_enm {la : Nat} {a : Addr} (fa : m[la]? = some a) : Good K M0 m (.enm la) (Ite K a) := by
  intro m' S H i p hR
  cases ea : getL S la with
  | none => simp only [stepI, ea]
  | some xs =>
    obtain ⟨us, hu, ru⟩ := hR.getL ea (pre_get p fa)
    rcases ru.at i with ⟨e1, e2⟩ | ⟨v, w, e1, e2, q⟩
    · simp only [stepI, ea, e1]
      exact ⟨us, hu, List.getElem?_eq_none_iff.mp e2⟩
    · simp only [stepI, ea, e1]
      refine ⟨⟨us, w, hu, e2⟩, fun x H' ⟨T, x1, ex, nT, eH, h1⟩ => ?_⟩
      have g1 := h1 us hu
      rw [e2] at g1; cases g1
      subst ex eH
      exact ⟨m' ++ [T], List.prefix_append _ _, hR.put_tup nT (.cons rfl (.cons q .nil)), T, hR.new_at, rfl⟩
end

theorem PI.imp {X : Cx} {tg e : Expr} {w w' : TI} (h : PI X tg e w) (f : ∀ σ H Q, w' σ H Q → w σ H Q) : PI X tg e w' := ⟨fun pins s σ H Q I q => h.run pins s σ H Q I (f σ H Q q)⟩
theorem PI.or {X : Cx} {tg e : Expr} {w w' : TI} (h : PI X tg e w) (h' : PI X tg e w') : PI X tg e (fun σ H Q => w σ H Q ∨ w' σ H Q) := ⟨fun pins s σ H Q I q => q.elim (h.run pins s σ H Q I) (h'.run pins s σ H Q I)⟩

/-- a list or a tuple -/
def diSeq (d : DE) : DI := fun σ S => match d σ S with
  | .ok (.ref l) S' => (match getL S' l with | some _ => .ok (.lst l) S' | none => match getT S' l with | some _ => .ok (.tup l) S' | none => .no)
  | _ => .no
def diRng1 (d : DA) : DI := fun σ S => match d σ S with
  | .ok [.int j] S' => if -(2 ^ 62) ≤ j ∧ j < 2 ^ 62 then .ok (.rng 0 j.toNat) S' else .no
  | _ => .no
def diRng2 (d : DA) : DI := fun σ S => match d σ S with
  | .ok [.int i, .int j] S' => if -(2 ^ 62) ≤ i ∧ i < 2 ^ 62 ∧ -(2 ^ 62) ≤ j ∧ j < 2 ^ 62 then .ok (.rng i (j - i).toNat) S' else .no
  | _ => .no
def diZip (d : DA) : DI := fun σ S => match d σ S with
  | .ok [.ref a, .ref b] S' => (match getL S' a with
    | some _ => (match getL S' b with | some _ => .ok (.zip a b) S' | none => .no)
    | none => match getT S' a with
      | some _ => (match getT S' b with | some _ => .ok (.zipT a b) S' | none => .no)
      | none => .no)
  | _ => .no
def diEnm (d : DA) : DI := fun σ S => match d σ S with
  | .ok [.ref a] S' => (match getL S' a with | some _ => .ok (.enm a) S' | none => .no)
  | _ => .no

section
variable {K : PySem.W.Frag} {M0 m : List Addr} {S : Sto} {H : Hp} {σ : L2.St} {R' : It → Hp → Prop} {d : DE} {da : DA}
theorem seq_tII (h : tII K M0 (diSeq d) σ H R') : iList K (tI K M0 d) σ H R' ∨ iTup K (tI K M0 d) σ H R' := by
  obtain ⟨m, σi, S, hR, hs, h⟩ := h
  unfold diSeq at h
  cases e : d σi S with
  | no => rw [e] at h; exact h.elim
  | ok v S' =>
    rw [e] at h
    cases v with
    | ref l =>
      simp only at h
      cases el : getL S' l with
      | some xs =>
        simp only [el] at h
        refine .inl ⟨m, σi, S, hR, hs, ?_⟩
        rw [e]
        intro m' H' p R1 w ⟨a, f, ew⟩
        obtain ⟨ys, hy, _⟩ := R1.getL el f
        exact ⟨a, ew, ⟨ys, hy⟩, h m' H' p R1 _ (good_lst f)⟩
      | none =>
        simp only [el] at h
        cases et : getT S' l with
        | none => simp only [et] at h; exact h.elim
        | some xs =>
          simp only [et] at h
          refine .inr ⟨m, σi, S, hR, hs, ?_⟩
          rw [e]
          intro m' H' p R1 w ⟨a, f, ew⟩
          obtain ⟨ys, hy, _⟩ := R1.getT et f
          exact ⟨a, ew, ⟨ys, hy⟩, h m' H' p R1 _ (good_tup f)⟩
    | _ => exact h.elim
theorem rng1_tII (h : tII K M0 (diRng1 da) σ H R') : iRng1 (tIA K M0 da) σ H R' := by
  obtain ⟨m, σi, S, hR, hs, h⟩ := h
  refine ⟨m, σi, S, hR, hs, ?_⟩
  unfold diRng1 at h
  cases e : da σi S with
  | no => rw [e] at h; exact h.elim
  | ok vs S' =>
    rw [e] at h
    intro m' H' p R1 ws r
    match vs, ws, r, h with
    | [.int j], _, .cons r1 .nil, h =>
      cases r1
      simp only at h
      by_cases hj : -(2 ^ 62) ≤ j ∧ j < 2 ^ 62
      · rw [if_pos hj] at h
        exact ⟨j, rfl, hj.1, hj.2, h m' H' p R1 _ good_rng⟩
      · rw [if_neg hj] at h; exact h.elim
theorem rng2_tII (h : tII K M0 (diRng2 da) σ H R') : iRng2 (tIA K M0 da) σ H R' := by
  obtain ⟨m, σi, S, hR, hs, h⟩ := h
  refine ⟨m, σi, S, hR, hs, ?_⟩
  unfold diRng2 at h
  cases e : da σi S with
  | no => rw [e] at h; exact h.elim
  | ok vs S' =>
    rw [e] at h
    intro m' H' p R1 ws r
    match vs, ws, r, h with
    | [.int i, .int j], _, .cons r1 (.cons r2 .nil), h =>
      cases r1; cases r2
      simp only at h
      by_cases hj : -(2 ^ 62) ≤ i ∧ i < 2 ^ 62 ∧ -(2 ^ 62) ≤ j ∧ j < 2 ^ 62
      · rw [if_pos hj] at h
        exact ⟨i, j, rfl, hj, h m' H' p R1 _ good_rng⟩
      · rw [if_neg hj] at h; exact h.elim
theorem zip_tII (h : tII K M0 (diZip da) σ H R') : iZipA K (tIA K M0 da) σ H R' := by
  obtain ⟨m, σi, S, hR, hs, h⟩ := h
  refine ⟨m, σi, S, hR, hs, ?_⟩
  unfold diZip at h
  cases e : da σi S with
  | no => rw [e] at h; exact h.elim
  | ok vs S' =>
    rw [e] at h
    intro m' H' p R1 ws r
    match vs, ws, r, h with
    | [.ref la, .ref lb], _, .cons ⟨a, fa, ea⟩ (.cons ⟨b, fb, eb⟩ .nil), h =>
      subst ea eb
      simp only at h
      cases ga : getL S' la with
      | some xs =>
        simp only [ga] at h
        cases gb : getL S' lb with
        | none => simp only [gb] at h; exact h.elim
        | some ys =>
          simp only [gb] at h
          obtain ⟨us, hu, _⟩ := R1.getL ga fa
          obtain ⟨ws, hw, _⟩ := R1.getL gb fb
          exact ⟨a, b, us, ws, rfl, .inl ⟨hu, hw, h m' H' p R1 _ (good_zip fa fb)⟩⟩
      | none =>
        simp only [ga] at h
        cases ta : getT S' la with
        | none => simp only [ta] at h; exact h.elim
        | some xs =>
          simp only [ta] at h
          cases tb : getT S' lb with
          | none => simp only [tb] at h; exact h.elim
          | some ys =>
            simp only [tb] at h
            obtain ⟨us, hu, _⟩ := R1.getT ta fa
            obtain ⟨ws, hw, _⟩ := R1.getT tb fb
            exact ⟨a, b, us, ws, rfl, .inr ⟨hu, hw, h m' H' p R1 _ (good_zipT fa fb)⟩⟩
theorem enm_tII (h : tII K M0 (diEnm da) σ H R') : iEnum K (tIA K M0 da) σ H R' := by
  obtain ⟨m, σi, S, hR, hs, h⟩ := h
  refine ⟨m, σi, S, hR, hs, ?_⟩
  unfold diEnm at h
  cases e : da σi S with
  | no => rw [e] at h; exact h.elim
  | ok vs S' =>
    rw [e] at h
    intro m' H' p R1 ws r
    match vs, ws, r, h with
    | [.ref la], _, .cons ⟨a, fa, ea⟩ .nil, h =>
      subst ea
      simp only at h
      cases ga : getL S' la with
      | none => simp only [ga] at h; exact h.elim
      | some xs =>
        simp only [ga] at h
        obtain ⟨us, hu, _⟩ := R1.getL ga fa
        exact ⟨a, us, rfl, hu, h m' H' p R1 _ (good_enm fa)⟩
end

/-! ### for -/
def forI (it : ItI) (t : TgI) (b : DS) : Nat → Nat → DS
  | 0, _, _, _ => .no
  | n + 1, i, σ, S => match stepI it i S with
    | none => .no
    | some none => .nx σ S
    | some (some (v, S1)) => match asgT t v σ S1 with
      | none => .no
      | some σ1 => match b σ1 S1 with
        | .nx σ' S' => forI it t b n (i + 1) σ' S' | .ct σ' S' => forI it t b n (i + 1) σ' S' | .bk σ' S' => .nx σ' S' | .rt v S' => .rt v S' | .no => .no
def dFor (di : DI) (t : TgI) (b : DS) : DS := fun σ S => match di σ S with
  | .ok it S1 => forI it t b (fuelI it S1) 0 σ S1
  | .no => .no
theorem for_tS {K : PySem.W.Frag} {M0 : List Addr} {σ : L2.St} {H : Hp} {D : Ends} {di : DI} {t : TgI} {b : DS} (h : tIS K M0 (dFor di t b) D σ H) : tFor (tII K M0 di) (tgT K t) (tIS K M0 b) D σ H := by
  obtain ⟨m, σi, S, hR, hs, h⟩ := h
  refine ⟨m, σi, S, hR, hs, ?_⟩
  unfold dFor at h
  cases e : di σi S with
  | no => rw [e] at h; exact h.elim
  | ok it S1 =>
    rw [e] at h
    intro m1 H1 p1 R1 J gJ
    refine ⟨fun i n σ H => ∃ m σi S, m1 <+: m ∧ R K M0 m S H ∧ Rs m σi σ ∧ SatS K M0 m (forI it t b n i σi S) D, ⟨_, m1, σi, S1, List.prefix_refl _, R1, hs.mono p1, SatS.mono (r := forI it t b _ 0 σi S1) p1 h⟩, ?_⟩
    rintro i n σ2 H2 ⟨m2, σi2, S2, p2, R2, s2, h2⟩
    cases n with
    | zero => exact h2.elim
    | succ n =>
      unfold forI at h2
      have g := gJ m2 S2 H2 i p2 R2
      cases e1 : stepI it i S2 with
      | none => simp only [e1] at h2; exact h2.elim
      | some o =>
        rw [e1] at g
        cases o with
        | none =>
          simp only [e1] at h2
          exact .inl ⟨g, h2 m2 H2 σ2 (List.prefix_refl _) R2 s2⟩
        | some q =>
          obtain ⟨v, S3⟩ := q
          simp only [e1] at h2
          refine .inr ⟨g.1, fun σ' H' => ∃ m σi S, m1 <+: m ∧ R K M0 m S H' ∧ Rs m σi σ' ∧ SatS K M0 m (forI it t b n (i + 1) σi S) D, fun σ' H' w => ⟨n, Nat.lt_succ_self n, w⟩, fun x H3 hy => ?_⟩
          obtain ⟨m3, p3, R3, rv⟩ := g.2 x H3 hy
          cases e2 : asgT t v σi2 S3 with
          | none => simp only [e2] at h2; exact h2.elim
          | some σ3 =>
            simp only [e2] at h2
            refine asg_go R3 rv (s2.mono p3) e2 fun σ4 s4 _ => ⟨m3, σ3, S3, R3, s4, ?_⟩
            cases e3 : b σ3 S3 with
            | no => simp only [e3] at h2; exact h2.elim
            | nx σ' S' => simp only [e3] at h2; exact fun m5 H5 σ5 p5 R5 s5 => ⟨m5, σ', S', (p2.trans p3).trans p5, R5, s5, SatS.mono (r := forI it t b n (i + 1) σ' S') (p3.trans p5) h2⟩
            | ct σ' S' => simp only [e3] at h2; exact fun m5 H5 σ5 p5 R5 s5 => ⟨m5, σ', S', (p2.trans p3).trans p5, R5, s5, SatS.mono (r := forI it t b n (i + 1) σ' S') (p3.trans p5) h2⟩
            | bk σ' S' => simp only [e3] at h2; exact fun m5 H5 σ5 p5 R5 s5 => h2 m5 H5 σ5 (p3.trans p5) R5 s5
            | rt v S' => simp only [e3] at h2; exact fun m5 H5 w5 p5 R5 s5 => h2 m5 H5 w5 (p3.trans p5) R5 s5

/-! ### list comprehensions -/
def lcI (it : ItI) (t : TgI) (tt : DT) (te : DE) (D : Nat) (σ : Sl) : Nat → Nat → Sto → R3 IV
  | 0, _, _ => .no
  | n + 1, i, S => match stepI it i S with
    | none => .no
    | some none => .ok (.ref D) S
    | some (some (v, S1)) => match asgT t v σ S1 with
      | none => .no
      | some σ1 => match tt σ1 S1 with
        | .no => .no
        | .ok false S2 => lcI it t tt te D σ n (i + 1) S2
        | .ok true S2 => match te σ1 S2 with
          | .no => .no
          | .ok y S3 => match S3.get D with
            | some (.lst acc) => if acc.length < 100000 then lcI it t tt te D σ n (i + 1) (S3.set D (.lst (acc ++ [y]))) else .no
            | _ => .no
def dLc (di : DI) (t : TgI) (tt : DT) (te : DE) (vs : List Nat) : DE := fun σ S => match di σ S with
  | .no => .no
  | .ok it S1 => lcI it t tt te S1.n (wipeI σ vs) (fuelI it S1) 0 (S1.put (.lst []))
theorem lc_tI {K : PySem.W.Frag} {M0 : List Addr} {σ : L2.St} {H : Hp} {Q : VK} {di : DI} {t : TgI} {tt : DT} {te : DE} {vs : List Nat} (hv : ∀ j ∈ t.slots, j ∈ vs) (h : tI K M0 (dLc di t tt te vs) σ H Q) :
    tLc (tII K M0 di) (tgT K t) (tIT K M0 tt) (tI K M0 te) vs σ H Q := by
  obtain ⟨m, σi, S, hR, hs, h⟩ := h
  refine ⟨m, σi, S, hR, hs, ?_⟩
  unfold dLc at h
  cases e : di σi S with
  | no => rw [e] at h; exact h.elim
  | ok it S1 =>
    rw [e] at h
    intro m1 H1 p1 R1 J gJ D nD
    have R2 := R1.put_lst (xs := []) (ys := []) nD .nil
    have f2 : (m1 ++ [D])[S1.n]? = some D := R1.new_at
    refine ⟨fun i n H => ∃ m S, (m1 ++ [D]) <+: m ∧ R K M0 m S H ∧ Sat K M0 m (lcI it t tt te S1.n (wipeI σi vs) n i S) (fun m' v _ H' => ∀ w, Rv m' v w → Q w H'),
      ⟨_, _, _, List.prefix_refl _, R2, Sat.mono (r := lcI it t tt te S1.n (wipeI σi vs) (fuelI it S1) 0 (S1.put (.lst []))) (p1.trans (List.prefix_append _ _)) h⟩, ?_⟩
    rintro i n H2 ⟨m2, S2, p2, R2, h2⟩
    have pm : m1 <+: m2 := (List.prefix_append _ _).trans p2
    cases n with
    | zero => exact h2.elim
    | succ n =>
      unfold lcI at h2
      have g := gJ m2 S2 H2 i pm R2
      cases e1 : stepI it i S2 with
      | none => simp only [e1] at h2; exact h2.elim
      | some o =>
        rw [e1] at g
        cases o with
        | none =>
          simp only [e1] at h2
          exact .inl ⟨g, h2 m2 H2 (List.prefix_refl _) R2 _ ⟨D, pre_get p2 f2, rfl⟩⟩
        | some q =>
          obtain ⟨v, S3⟩ := q
          simp only [e1] at h2
          refine .inr ⟨g.1, fun H' => ∃ m S, (m1 ++ [D]) <+: m ∧ R K M0 m S H' ∧ Sat K M0 m (lcI it t tt te S1.n (wipeI σi vs) n (i + 1) S) (fun m' v _ H' => ∀ w, Rv m' v w → Q w H'),
            fun H' w => ⟨n, Nat.lt_succ_self n, w⟩, fun x H3 hy => ?_⟩
          obtain ⟨m3, p3, R3, rv⟩ := g.2 x H3 hy
          have sw : Rs m3 (wipeI σi vs) (wipe σ vs) := ((hs.wipe vs).mono p1).mono (pm.trans p3)
          cases e2 : asgT t v (wipeI σi vs) S3 with
          | none => simp only [e2] at h2; exact h2.elim
          | some σ3 =>
            simp only [e2] at h2
            refine asg_go R3 rv sw e2 fun σ4 s4 hw => ⟨?_, m3, σ3, S3, R3, s4, ?_⟩
            · rw [hw vs hv]
              exact wipe_wipe vs
            cases e3 : tt σ3 S3 with
            | no => simp only [e3] at h2; exact h2.elim
            | ok b S4 =>
              intro m4 H4 p4 R4
              cases b with
              | false =>
                simp only [e3] at h2
                rw [if_neg Bool.false_ne_true]
                exact ⟨m4, S4, (p2.trans p3).trans p4, R4, Sat.mono (r := lcI it t tt te S1.n (wipeI σi vs) n (i + 1) S4) (p3.trans p4) h2⟩
              | true =>
                simp only [e3] at h2
                rw [if_pos rfl]
                refine ⟨m4, σ3, S4, R4, s4.mono p4, ?_⟩
                cases e4 : te σ3 S4 with
                | no => simp only [e4] at h2; exact h2.elim
                | ok y S5 =>
                  simp only [e4] at h2
                  intro m5 H5 p5 R5 w rw5
                  cases e5 : S5.get S1.n with
                  | none => simp only [e5] at h2; exact h2.elim
                  | some o =>
                    cases o with
                    | lst acc5 =>
                      simp only [e5] at h2
                      by_cases hl : acc5.length < 100000
                      · rw [if_pos hl] at h2
                        have pD : (m1 ++ [D]) <+: m5 := ((p2.trans p3).trans p4).trans p5
                        have fD := pre_get pD f2
                        obtain ⟨aD, ys, faD, eD, rD⟩ := R5.lst e5
                        rw [fD] at faD; cases faD
                        refine ⟨ys, eD, line_lt (by rw [← rD.length]; exact hl), m5, _, pD, R5.set_lst e5 fD (append_rel rD (.cons rw5 .nil)), ?_⟩
                        exact Sat.mono (r := lcI it t tt te S1.n (wipeI σi vs) n (i + 1) _) ((p3.trans p4).trans p5) h2
                      · rw [if_neg hl] at h2; exact h2.elim
                    | _ => simp only [e5] at h2; exact h2.elim
where
  wipe_wipe {σ : L2.St} : ∀ vs : List Nat, wipe (wipe σ vs) vs = wipe σ vs := by
    have go : ∀ (us vs : List Nat), (∀ j ∈ us, j ∈ vs) → wipe (wipe σ vs) us = wipe σ vs := by
      intro us vs
      induction us with
      | nil => intro _; rfl
      | cons u us ih =>
        intro h
        show (wipe (wipe σ vs) us).set u none = wipe σ vs
        rw [ih fun j hj => h j (List.mem_cons_of_mem _ hj)]
        have hu := h u List.mem_cons_self
        clear ih h
        induction vs with
        | nil => cases hu
        | cons v vs ih =>
          show ((wipe σ vs).set v none).set u none = (wipe σ vs).set v none
          by_cases e : v = u
          · subst e; rw [List.set_set]
          · rcases List.mem_cons.mp hu with q | q
            · exact absurd q.symm e
            · rw [List.set_comm _ _ e, ih q]
    exact fun vs => go vs vs fun _ h => h

/-! ### a def -/
def dFun (np n : Nat) (d : DS) : Fn := fun ivs S => if ivs.length = np then
    (match d (ivs.map some ++ List.replicate (n - np) none) S with | .nx _ S' => .ok .non S' | .rt v S' => .ok v S' | _ => .no)
  else .no
theorem dFun_no {np n : Nat} {d : DS} : ∀ ivs S, ivs.length ≠ np → dFun np n d ivs S = .no := fun ivs S h => by
  unfold dFun
  rw [if_neg h]
theorem start_rel {m : List Addr} {N : List Str} : ∀ {ivs : List IV} {vs : List V}, Rvs m ivs vs → Rs m (ivs.map some ++ List.replicate (N.length - vs.length) none) (L2.start N vs) := by
  intro ivs vs r
  have hl := r.length
  refine ⟨by unfold L2.start; simp [hl], fun i v e => ?_⟩
  unfold L2.start
  by_cases hi : i < ivs.length
  · rw [List.getElem?_append_left (by simpa using hi), List.getElem?_map] at e
    rw [List.getElem?_append_left (by simpa [← hl] using hi), List.getElem?_map]
    rcases r.at i with ⟨e1, e2⟩ | ⟨v', w, e1, e2, q⟩
    · rw [e1] at e; cases e
    · rw [e1] at e
      cases e
      exact ⟨w, by rw [e2]; rfl, q⟩
  · rw [List.getElem?_append_right (by simpa using hi), List.getElem?_replicate] at e
    split at e <;> cases e
theorem fn_tI {P : Program} {w : World} {K : PySem.W.Frag} {mg : Str → Option Value} {base : Heap} {M0 : List Addr} {x qual : Str} {st : Stmt} {f : Addr} {fd : FuncData} {N ps : List Str} {k : Nat} {d : DS}
    (F : Fun K x qual st f fd) (Sc : FnScope N ps (defScope st))
    (hbody : ∀ (cdv : Value) (A : Around) (outer : List Env) (s : Shared) (H : Hp) (E : XK), Room k (A.deeper (envOfC qual (defScope st) s.heap.objs.size f cdv)) →
      PSs (cxOf CX0 P w K mg base N qual (defScope st) f cdv A outer s H E).nox (defBody st) (tIS K M0 d)) :
    FnOk P w K mg base CX0 (k + 1) f fd ps (spI K M0 ps.length (dFun ps.length N.length d)) := by
  refine F.ok Sc (fun vs H Q E h => h.1) (fun cdv A outer s H vs Q E hr h => ⟨_, hbody cdv A outer s H E hr, ?_⟩)
  obtain ⟨hl, m, ivs, S, hR, r, h⟩ := h
  refine ⟨m, _, S, hR, start_rel r, ?_⟩
  unfold dFun at h
  rw [if_pos (by rw [r.length]; exact hl)] at h
  rw [hl]
  cases e : d (ivs.map some ++ List.replicate (N.length - ps.length) none) S with
  | nx σ' S' => simp only [e] at h; exact fun m' H' σ p R' _ => h m' H' p R' _ rfl
  | rt v S' => simp only [e] at h; exact fun m' H' w p R' rw' => h m' H' p R' w rw'
  | bk σ' S' => simp only [e] at h; exact h.elim
  | ct σ' S' => simp only [e] at h; exact h.elim
  | no => simp only [e] at h; exact h.elim
end RI
set_option maxRecDepth 100000
namespace RI
open PySem PySem.Spec PyProof.Rows L2

/-! ### defs, called where no container is being shown -/
structure FnG (P : Program) (w : World) (K : PySem.W.Frag) (mg : Str → Option Value) (base : Heap) (k : Nat) (f : Addr) (fd : FuncData) (ps : List Str) (sp : Sp) : Prop where
  len : ∀ vs H Q E, sp vs H Q E → vs.length = ps.length
  run : ∀ (A : Around) (outer : List Env) (s : Shared) (H : Hp) (args : Args) (us : List Value) (vs : List V) (Q : VK), Room k A → A.guards = some [] → Env0 P w K mg base A outer s H → BindsTo s fd args (ps.zip us) →
    Vals vs us → sp vs H Q E0 → codeAny (model P w) A (.call (.ref f) args) (CR CX0 outer P w H s Q E0) s
theorem FnG.mono {P : Program} {w : World} {K : PySem.W.Frag} {mg : Str → Option Value} {base : Heap} {j k : Nat} {f : Addr} {fd : FuncData} {ps : List Str} {sp : Sp} (F : FnG P w K mg base j f fd ps sp) (h : j ≤ k) : FnG P w K mg base k f fd ps sp :=
  ⟨F.len, fun A outer s H args us vs Q r => F.run A outer s H args us vs Q (r.mono h)⟩

section
variable {X : Cx} {k : Nat} {f : Addr} {fd : FuncData} {ps ks : List Str} {sp : Sp} {x : Str} {p pos : Pos} {e : Expr} {es : List Expr} {kws : List Keyword} {t tk : TA}
/-- the callee's end, seen by the caller -/
theorem back {pins : List (Addr × Obj)} {σ : L2.St} {H : Hp} {s : Shared} {Q : VK} {r : Result} {s' : Shared} (I : Inv X pins σ H s) (h : CR CX0 X.stack X.prog X.w H s Q E0 r s') : ∃ u, r = .ok (.ret u) ∧ EP X pins σ Q u s' := by
  match r, h with
  | .ok (.ret u), h => exact ⟨u, rfl, I.after h⟩
  | .ok .next, h => exact h.elim
  | .ok .brk, h => exact h.elim
  | .ok .cont, h => exact h.elim
  | .error e, h => exact h.elim
theorem go_fn {pins : List (Addr × Obj)} {σ : L2.St} {H : Hp} {s : Shared} {Q : VK} {us : List Value} {vs : List V} (F : FnG X.prog X.w X.K X.mg X.base k f fd ps sp) (hr : Room k X.A) (hg : X.A.guards = some []) (hb : Binds X.K fd ps [])
    (I : Inv X pins σ H s) (r : Vals vs us) (h : sp vs H Q E0) : wpAny (model X.prog X.w) X.A (call (.ref f) us) (EP X pins σ Q) X.xe s := by
  have hl : (us ++ ([] : List Value)).length = ps.length := by
    have := r.length
    have := F.len vs H Q E0 h
    simp; omega
  have hbs := hb s us I.kIn hl
  rw [List.append_nil] at hbs
  refine wpAny_call (codeAny_mono (F.run X.A X.stack s H ⟨us, []⟩ us vs Q hr hg I.env0 hbs r h) fun r' s' q => ?_)
  obtain ⟨u, rfl, q'⟩ := back I q
  exact q'
theorem g_call (F : FnG X.prog X.w X.K X.mg X.base k f fd ps sp) (hr : Room k X.A) (hgd : X.A.guards = some []) (hg : Gl X x) (hm : X.mg x = some (.ref f)) (hk : PySem.W.keepIn X.K (.ref f) = true) (hb : Binds X.K fd ps [])
    (ha : PA X (e :: es) t) (hdb : (x == ("__debug__" : Str)) = false := by decide) (he : starEach (e :: es) X.env = (false, eval e X.env) :: starEach es X.env := by rfl) (hpl : (backTo pos (starEach es X.env)).any (·.1) = false := by rfl) :
    PE X (.Call (.Name x p) (e :: es) [] pos) (tCall sp [] E0 t) :=
  ⟨fun pins s σ H Q I h => wpAny_Call_Name_kw (ld_glob I hg hm (PySem.W.callWith_K (h₀ := X.base) I.ok.mod.kin hk
    (thn (ha.run pos pins s σ H _ I h) fun us s1 ⟨vs, H1, I1, r, q⟩ => ⟨I1.kIn, go_fn F hr hgd hb I1 r (by have q : sp (vs ++ []) H1 Q E0 := q; rw [List.append_nil] at q; exact q)⟩) he hpl) hdb)⟩
theorem g_call0 (F : FnG X.prog X.w X.K X.mg X.base k f fd ps sp) (hr : Room k X.A) (hgd : X.A.guards = some []) (hg : Gl X x) (hm : X.mg x = some (.ref f)) (hk : PySem.W.keepIn X.K (.ref f) = true) (hb : Binds X.K fd ps [])
    (hdb : (x == ("__debug__" : Str)) = false := by decide) : PE X (.Call (.Name x p) [] [] pos) (tCall sp [] E0 tNil) :=
  ⟨fun pins s σ H Q I h => wpAny_Call_Name_kw (ld_glob I hg hm (PySem.W.callWith_K0 I.kIn hk (go_fn (us := []) F hr hgd hb I .nil h)) hdb)⟩
theorem g_callK {g : List Value → List Value → List Value} {gV : List V → List V → List V} (F : FnG X.prog X.w X.K X.mg X.base k f fd ps sp) (hr : Room k X.A) (hgd : X.A.guards = some []) (hg : Gl X x) (hm : X.mg x = some (.ref f))
    (hk : PySem.W.keepIn X.K (.ref f) = true) (hb : KBinds X.K fd ps ks g gV) (ha : PA X (e :: es) t) (hkw : PK X kws tk) (hall : (backToKw pos (keywordEach kws X.env)).all (·.1.isSome) = true := by rfl)
    (hks : (backToKw pos (keywordEach kws X.env)).filterMap (·.1) = ks := by rfl) (hdb : (x == ("__debug__" : Str)) = false := by decide) (he : starEach (e :: es) X.env = (false, eval e X.env) :: starEach es X.env := by rfl)
    (hpl : ((backTo pos (starEach (e :: es) X.env)).any (·.1) || (backToKw pos (keywordEach kws X.env)).any (·.1.isNone)) = false := by rfl) : PE X (.Call (.Name x p) (e :: es) kws pos) (tCallK sp gV E0 t tk) := by
  refine ⟨fun pins s σ H Q I h => wpAny_Call_Name_kw (ld_glob I hg hm (PySem.W.callWith_KW (h₀ := X.base) I.ok.mod.kin hk hall
    (thn (ha.run pos pins s σ H _ I h) fun us s1 ⟨vs, H1, I1, r, q⟩ => thn (hkw.run pos pins s1 σ H1 _ I1 q) fun ws s2 ⟨zs, H2, I2, rz, q2⟩ => ⟨I2.kIn, ?_⟩) hpl he) hdb)⟩
  rw [hks]
  have r2 := hb.rel r rz
  have hl : (g us ws).length = ps.length := r2.length.symm.trans (F.len _ _ _ _ q2)
  refine wpAny_call (codeAny_mono (F.run X.A X.stack s2 H2 ⟨us, ks.zip ws⟩ (g us ws) (gV vs zs) Q hr hgd I2.env0 (hb.to s2 us ws I2.kIn hl) r2 q2) fun r' s' q => ?_)
  obtain ⟨u, rfl, q'⟩ := back I2 q
  exact q'
theorem g_callK0 {g : List Value → List Value → List Value} {gV : List V → List V → List V} (F : FnG X.prog X.w X.K X.mg X.base k f fd ps sp) (hr : Room k X.A) (hgd : X.A.guards = some []) (hg : Gl X x) (hm : X.mg x = some (.ref f))
    (hk : PySem.W.keepIn X.K (.ref f) = true) (hb : KBinds X.K fd ps ks g gV) (hkw : PK X kws tk) (hall : (backToKw pos (keywordEach kws X.env)).all (·.1.isSome) = true := by rfl)
    (hks : (backToKw pos (keywordEach kws X.env)).filterMap (·.1) = ks := by rfl) (hdb : (x == ("__debug__" : Str)) = false := by decide)
    (hpl : ((backTo pos (starEach [] X.env)).any (·.1) || (backToKw pos (keywordEach kws X.env)).any (·.1.isNone)) = false := by rfl) : PE X (.Call (.Name x p) [] kws pos) (tCallK sp gV E0 tNil tk) := by
  refine ⟨fun pins s σ H Q I h => wpAny_Call_Name_kw (ld_glob I hg hm (PySem.W.callWith_KW0 (h₀ := X.base) I.ok.mod.kin hk hall
    (thn (hkw.run pos pins s σ H _ I h) fun ws s2 ⟨zs, H2, I2, rz, q2⟩ => ⟨I2.kIn, ?_⟩) hpl) hdb)⟩
  rw [hks]
  have r2 := hb.rel .nil rz
  have hl : (g [] ws).length = ps.length := r2.length.symm.trans (F.len _ _ _ _ q2)
  show wpAny _ _ (call (.ref f) [] (ks.zip ws)) _ _ _
  refine wpAny_call (codeAny_mono (F.run X.A X.stack s2 H2 ⟨[], ks.zip ws⟩ (g [] ws) (gV [] zs) Q hr hgd I2.env0 (hb.to s2 [] ws I2.kIn hl) r2 q2) fun r' s' q => ?_)
  obtain ⟨u, rfl, q'⟩ := back I2 q
  exact q'
end

/-- a def by its body -/
theorem fn_g {P : Program} {w : World} {K : PySem.W.Frag} {mg : Str → Option Value} {base : Heap} {M0 : List Addr} {x qual : Str} {st : Stmt} {f : Addr} {fd : FuncData} {N ps : List Str} {k : Nat} {d : DS}
    (F : Fun K x qual st f fd) (Sc : FnScope N ps (defScope st))
    (hbody : ∀ (cdv : Value) (A : Around) (outer : List Env) (s : Shared) (H : Hp), Room k (A.deeper (envOfC qual (defScope st) s.heap.objs.size f cdv)) → (A.deeper (envOfC qual (defScope st) s.heap.objs.size f cdv)).guards = some [] →
      PSs (cxOf CX0 P w K mg base N qual (defScope st) f cdv A outer s H E0).nox (defBody st) (tIS K M0 d)) :
    FnG P w K mg base (k + 1) f fd ps (spI K M0 ps.length (dFun ps.length N.length d)) := by
  obtain ⟨oc, od, kV, doc, pm, an, cdv, ct, osl, rfl, lk, hcd⟩ := F.ex
  refine ⟨fun vs H Q E h => h.1, fun A outer s H args us vs Q hr hg e0 hb r hsp => ?_⟩
  have hl : vs.length = ps.length := hsp.1
  have KX : K.In s.heap := e0.mod.kin.keeps fun b o e => (e0.bs b o e).1
  have lim : s.heap.NoLimit := e0.mod.nolimit.keeps fun b o e => (e0.bs b o e).1
  refine codeAny_call_function hr.depth (KX _ _ lk) rfl Sc.co Sc.gen rfl (PySem.W.codeRec_of KX hcd) (hb _ _ _ _ ?_)
  refine wpAny_newFunctionEnv_cells Sc.kind (fun ⟨n, v⟩ hy => (Sc.par n (List.of_mem_zip hy).1).elim Or.inl fun q => .inr ⟨q, PySem.W.cellsFrom_some _ _ _ (.inl q)⟩) fun env he s1 xx => ?_
  subst he
  refine ⟨lim.keeps xx.toInCall.keep, codeAny_func ?_⟩
  have I : Inv (cxOf CX0 P w K mg base N qual (defScope st) f cdv A outer s H E0) [] (L2.start N vs) H s1 := inv_start (CX := CX0) (P := P) (w := w) (mg := mg) (base := base) (H := H) (E := E0) Sc hr.hd e0 hl r xx
  have body := hbody cdv A outer s H (hr.deeper _) hg
  have main := (body.nox).run [] s1 (L2.start N vs) H { nx := fun _ H' => Q .non H', rt := Q } I (by
    obtain ⟨_, m, ivs, S, hR, rv, h⟩ := hsp
    refine ⟨m, _, S, hR, start_rel rv, ?_⟩
    unfold dFun at h
    rw [if_pos (by rw [rv.length]; exact hl)] at h
    rw [hl]
    cases e : d (ivs.map some ++ List.replicate (N.length - ps.length) none) S with
    | nx σ' S' => simp only [e] at h; exact fun m' H' σ p R' _ => h m' H' p R' _ rfl
    | rt v S' => simp only [e] at h; exact fun m' H' w p R' rw' => h m' H' p R' w rw'
    | bk σ' S' => simp only [e] at h; exact h.elim
    | ct σ' S' => simp only [e] at h; exact h.elim
    | no => simp only [e] at h; exact h.elim)
  refine wpAny_mono main (fun fl s' hs => ?_) fun e s' hs => hs
  have fin : ∀ {σ' : L2.St} {H' : Hp} {v : V} {u : Value}, Inv (cxOf CX0 P w K mg base N qual (defScope st) f cdv A outer s H E0) [] σ' H' s' → RelV v u → Q v H' → CE outer P w H s Q u s' :=
    fun J rv q => ⟨_, _, J.os, J.bare, J.base, J.hok, rv, q⟩
  match fl, hs with
  | .ret u, ⟨v, σ', H', J, rv, q⟩ => exact fin J rv q
  | .next, ⟨σ', H', J, q⟩ => exact fin (v := V.non) (u := Value.none) J rfl q
  | .brk, ⟨_, _, _, q⟩ => exact q.elim
  | .cont, ⟨_, _, _, q⟩ => exact q.elim

/-! ### the law itself -/
/-- what the script's list is at the law's call: locked, or the module's own -/
theorem script_hp {P : Program} {w : World} {K : PySem.W.Frag} {s : Shared} {a : Addr} {vs : List Value} {ns : List Int} (KX : K.In s.heap) (ha : s.heap.get? a = some { cls := .type "list", data := .seq vs.toArray }) (hi : IntsAre vs ns) (hl : ns.length ≤ sizeLine) :
    ∃ H : Hp, SqF K H a (ns.map V.int) ∧ HOk P w H s.heap ∧ (∀ b, H b ≠ none → b = a ∧ K.lookup a = none ∧ ∃ o xs, H b = some (.frz o (.lst xs))) := by
  have rv := vals_ints hi
  have hlen := hi.length
  cases hk : K.lookup a with
  | some o =>
    have e := KX a o hk
    rw [ha] at e
    cases e
    exact ⟨fun _ => none, .inr ⟨_, vs.toArray, _, hk, rfl, rfl, rfl, by rw [List.size_toArray, hlen]; exact hl, by simpa using rv⟩, (fun b u z => by
      have z' : (none : Option HO) = some u := z
      cases z'), fun b z => absurd rfl z⟩
  | none =>
    refine ⟨fun b => if b = a then some (.frz { cls := .type "list", data := .seq vs.toArray } (.lst (ns.map V.int))) else none, .inl ⟨_, if_pos rfl⟩, fun b u z => ?_, fun b z => ?_⟩
    · have hb : b = a := Classical.byContradiction fun hb => by
        have : (none : Option HO) = some u := (if_neg hb).symm.trans z
        cases this
      subst hb
      have z' := (if_pos rfl).symm.trans z
      cases z'
      exact ⟨ha, by rw [List.length_map]; exact hl, vs, _, rv, ha⟩
    · have hb : b = a := Classical.byContradiction fun hb => z (if_neg hb)
      subst hb
      exact ⟨rfl, rfl, _, _, if_pos rfl⟩
theorem law_go {P : Program} {w : World} {K : PySem.W.Frag} {mg mb : Str → Option Value} {k : Nat} {fa a : Addr} {fd : FuncData} {x : Str} {sp : Sp} {s : Shared} {vs : List Value} {ns : List Int}
    (KX : K.In s.heap) (hns : s.heap.Ns mainGlobals mg) (hb : s.heap.Ns builtinsNs mb) (hbb : ∀ x : Str, x ≠ "__name__" → mb x = bootBuiltins x) (hlim : s.heap.NoLimit) (hg : s.gens = #[])
    (ha : s.heap.get? a = some { cls := .type "list", data := .seq vs.toArray }) (hi : IntsAre vs ns) (hl : ns.length ≤ sizeLine) (hr : Room k callerA)
    (F : ∀ base : Heap, K.In base → base.Ns mainGlobals mg → FnG P w K mg base k fa fd [x] sp) (hbind : ∀ (s : Shared) (u : Value), BindsTo s fd ⟨[u], []⟩ [(x, u)])
    (hsp : ∀ H : Hp, SqF K H a (ns.map V.int) → sp [.ref a] H (fun v _ => v = .bl true) E0) :
    codeAny (model P w) callerA (.call (.ref fa) ⟨[.ref a], []⟩) (fun r s' => r = .ok (.ret (.bool true)) ∧ OldK s.heap s'.heap ∧ s'.os = s.os ∧ AllBare s'.gens) s := by
  obtain ⟨H, hS, hok, hA⟩ := script_hp (P := P) (w := w) KX ha hi hl
  have untr : ∀ {b : Addr} {o : Obj}, s.heap.get? b = some o → (∀ its n, o.data ≠ .seq its n) → H b = none := fun {b o} e hd => Classical.byContradiction fun z => by
    obtain ⟨rfl, _, _⟩ := hA b z
    rw [ha] at e
    cases e
    exact hd _ _ rfl
  have nsB : ∀ {b : Addr} {m : Str → Option Value}, s.heap.Ns b m → (hidT s.heap H).Ns b m := fun {b m} ⟨o, es, ep, e, d, r⟩ => ⟨o, es, ep, hidT_get e (untr e fun its n z => by rw [d] at z; cases z), d, r⟩
  have kinB : K.In (hidT s.heap H) := fun b o e => hidT_get (KX b o e) (Classical.byContradiction fun z => by
    obtain ⟨rfl, q, _⟩ := hA b z
    rw [q] at e
    cases e)
  have M : Mod K mg (hidT s.heap H) := by
    obtain ⟨mc, h1, h2⟩ := hlim
    exact ⟨kinB, nsB hns, ⟨mb, nsB hb, hbb⟩, mc, nsB h1, h2⟩
  have e0 : Env0 P w K mg (hidT s.heap H) callerA [] s H :=
    ⟨rfl, M, fun b o e => of_hidT e, Nat.le_of_eq (hidT_size _ _), trivial, fun b hb => absurd (show b ∈ ([] : List Addr) from hb) (by simp), hok, .of_eq hg⟩
  refine codeAny_mono ((F _ kinB (nsB hns)).run callerA [] s H ⟨[.ref a], []⟩ [.ref a] [.ref a] _ hr rfl e0 (hbind s (.ref a)) (.cons rfl .nil) (hsp H hS)) fun r s' h => ?_
  match r, h with
  | .error e, h => exact h.elim
  | .ok .next, h => exact h.elim
  | .ok .brk, h => exact h.elim
  | .ok .cont, h => exact h.elim
  | .ok (.ret u), ⟨v, H', os, bare, un, hok', r', q⟩ =>
    have q : v = .bl true := q
    subst q
    obtain rfl : u = Value.bool true := r'
    refine ⟨rfl, OldK.of_keep fun b o e => ?_, os, bare⟩
    by_cases z : H b = none
    · exact un.keep b o e z (fun z => absurd (show b ∈ ([] : List Addr) from z) (by simp)) (by simp)
    · obtain ⟨_, _, ob, xs, hz⟩ := hA b z
      have g1 := (hok b _ hz).1
      have g2 := (hok' b _ (un.frzs b ob _ hz)).1
      rw [e] at g1
      cases g1
      exact g2
theorem walk_g {l : PySem.W.OpenLaw} {n k : Nat} {q : Program} {loose : List Str} {XP : (Str → Option Value) → Heap → Prop} {YP : World → Heap → Prop} {d : DefRec} {K : Params → PySem.W.Frag} {x : Str}
    (hn : l.most = some n) (hn2 : n ≤ sizeLine) (hdf : d.params.defaults = []) (hr : Room k callerA)
    (hY : ∀ (w : World) (h : Heap), YP w h → (K w.params).In h)
    (F : ∀ (w : World) (mg : Str → Option Value) (fa : Addr) (h : Heap), (K w.params).In h → h.Ns mainGlobals mg → mg d.name = some (.ref fa) →
      ∃ (fd : FuncData) (sp : Sp), (∀ (s : Shared) (u : Value), BindsTo s fd ⟨[u], []⟩ [(x, u)]) ∧
        (∀ base : Heap, (K w.params).In base → base.Ns mainGlobals mg → FnG l.prog w (K w.params) mg base k fa fd [x] sp) ∧
        ∀ (H : Hp) (a : Addr) (ns : List Int), ns.length ≤ n → SqF (K w.params) H a (ns.map V.int) → sp [.ref a] H (fun v _ => v = .bl true) E0) :
    PySem.W.WalkO q loose XP YP l.row.toRowW d [] (fun f vs => PySem.call f vs) := by
  refine Att.attach_call hn hdf fun w s₀ s₁ mg mb fa o pm cd doc a vs ns G Y ho hd hcd hmg hobj hints hlen hg => ?_
  have KX := hY w _ Y
  obtain ⟨fd, sp, hb, hF, hsp⟩ := F w mg fa _ KX G.T.g hmg
  exact law_go KX G.T.g G.T.b G.T.builtins G.T.nolimit hg hobj hints (Nat.le_trans hlen hn2) hr hF hb fun H hS => hsp H a ns hlen hS
end RI
set_option maxRecDepth 100000
namespace RI
open PySem PySem.Spec PyProof.Rows L2

section
variable {K : PySem.W.Frag} {M0 m : List Addr} {S : Sto} {H : Hp}
theorem R.upd (h : R K M0 m S H) {p : Addr} {o : HO} (hn : H p = none) : R K M0 m S (upd H p o) :=
  ⟨h.pre, h.len, h.osn, h.sta, fun l o' e => (h.obj l o' e).elim fun a q => ⟨a, q.1, q.2.upd_new hn⟩, h.inj⟩
theorem R.here {α : Type} {a : α} {Q : List Addr → α → Sto → Hp → Prop} (h : R K M0 m S H) (q : Sat K M0 m (.ok a S) Q) : Q m a S H := q m H (List.prefix_refl _) h
/-- a new list, a new tuple as the answer -/
theorem R.newL {Q : VK} {xs : List IV} {ys : List V} (h : R K M0 m S H) (r : Rvs m xs ys) (q : Sat K M0 m (.ok (.ref S.n) (S.put (.lst xs))) fun m' v _ H' => ∀ w, Rv m' v w → Q w H') (p : Addr) (hp : H p = none) : Q (.ref p) (L2.upd H p (.lst ys)) :=
  q (m ++ [p]) _ (List.prefix_append _ _) (h.put_lst hp r) _ ⟨p, h.new_at, rfl⟩
theorem R.newT {Q : VK} {xs : List IV} {ys : List V} (h : R K M0 m S H) (r : Rvs m xs ys) (q : Sat K M0 m (.ok (.ref S.n) (S.put (.tup xs))) fun m' v _ H' => ∀ w, Rv m' v w → Q w H') (p : Addr) (hp : H p = none) : Q (.ref p) (L2.upd H p (.tup ys)) :=
  q (m ++ [p]) _ (List.prefix_append _ _) (h.put_tup hp r) _ ⟨p, h.new_at, rfl⟩
end

/-! ### arithmetic -/
def getM (S : Sto) (l : Nat) : Option (List IV) := match S.get l with | some (.lst xs) => some xs | _ => none
theorem R.getM {K : PySem.W.Frag} {M0 m : List Addr} {S : Sto} {H : Hp} (h : R K M0 m S H) {l : Nat} {xs : List IV} {a : Addr} (e : getM S l = some xs) (f : m[l]? = some a) : S.get l = some (.lst xs) ∧ ∃ ys, H a = some (.lst ys) ∧ Rvs m xs ys := by
  unfold RI.getM at e
  split at e
  · rename_i zs g
    cases e
    obtain ⟨a', f', ys, e1, r⟩ := h.obj l _ g
    rw [f] at f'; cases f'
    exact ⟨g, ys, e1, r⟩
  · cases e

def fAdd (x y : IV) (S : Sto) : R3 IV := match x, y with
  | .int i, .int j => .ok (.int (i + j)) S
  | .ref a, .ref b => (match getM S a with
    | some xs => (match getM S b with
      | some ys => if xs.length + ys.length ≤ 100000 then .ok (.ref S.n) (S.put (.lst (xs ++ ys))) else .no
      | none => .no)
    | none => match getT S a with
      | some xs => (match getT S b with
        | some ys => if xs.length + ys.length ≤ 100000 then (match xs, ys with | [], _ => .ok (.ref b) S | _ :: _, [] => .ok (.ref a) S | _ :: _, _ :: _ => .ok (.ref S.n) (S.put (.tup (xs ++ ys)))) else .no
        | none => .no)
      | none => .no)
  | _, _ => .no
def rAddI (K : PySem.W.Frag) : R2 := fun x y H Q => rI0 (fun i j => .int (i + j)) x y H Q ∨ (rCat x y H Q ∨ rCatA K x y H Q)
theorem add_op {X : Cx} : OpR X (binaryOp .Add) (rAddI X.K) := OpR.or op_add (OpR.or op_cat op_catA)
theorem add_I {K : PySem.W.Frag} {M0 : List Addr} : OpI K M0 (rAddI K) fAdd := by
  intro m S H x y vx vy Q hR rx ry h
  match vx, vy, rx, ry, h with
  | .int i, .int j, rfl, rfl, h => exact .inl ⟨i, j, rfl, rfl, hR.here h _ rfl⟩
  | .ref la, .ref lb, ⟨a, fa, ea⟩, ⟨b, fb, eb⟩, h =>
    subst ea eb
    unfold fAdd at h
    simp only at h
    cases ga : RI.getM S la with
    | some xs =>
      simp only [ga] at h
      obtain ⟨_, us, hu, ru⟩ := hR.getM ga fa
      cases gb : RI.getM S lb with
      | none => simp only [gb] at h; exact h.elim
      | some ys =>
        simp only [gb] at h
        obtain ⟨_, ws, hw, rw'⟩ := hR.getM gb fb
        split at h
        · rename_i hl
          exact .inr (.inl ⟨a, b, us, ws, rfl, rfl, hu, hw, line_ok (by rw [← ru.length, ← rw'.length]; exact hl), fun p hp => hR.newL (append_rel ru rw') h p hp⟩)
        · exact h.elim
    | none =>
      simp only [ga] at h
      cases ta : RI.getT S la with
      | none => simp only [ta] at h; exact h.elim
      | some xs =>
        simp only [ta] at h
        obtain ⟨us, hu, ru⟩ := hR.getT ta fa
        cases tb : RI.getT S lb with
        | none => simp only [tb] at h; exact h.elim
        | some ys =>
          simp only [tb] at h
          obtain ⟨ws, hw, rw'⟩ := hR.getT tb fb
          split at h
          · rename_i hl
            refine .inr (.inr ⟨a, b, us, ws, rfl, rfl, hu, hw, line_ok (by rw [← ru.length, ← rw'.length]; exact hl), fun e => ?_, fun n e => ?_, fun n n' p hp => ?_⟩)
            · subst e
              cases ru
              exact hR.here h _ ⟨b, fb, rfl⟩
            · subst e
              cases rw'
              cases ru with
              | nil => exact absurd rfl n
              | cons _ _ => exact hR.here h _ ⟨a, fa, rfl⟩
            · cases ru with
              | nil => exact absurd rfl n
              | cons r1 t1 =>
                cases rw' with
                | nil => exact absurd rfl n'
                | cons r2 t2 => exact hR.newT (append_rel (.cons r1 t1) (.cons r2 t2)) h p hp
          · exact h.elim

def fInt (g : Int → Int → IV) (x y : IV) (S : Sto) : R3 IV := match x, y with | .int i, .int j => .ok (g i j) S | _, _ => .no
def fIntC (C : Int → Int → Prop) [∀ i j, Decidable (C i j)] (g : Int → Int → IV) (x y : IV) (S : Sto) : R3 IV := match x, y with | .int i, .int j => if C i j then .ok (g i j) S else .no | _, _ => .no
theorem int_I {K : PySem.W.Frag} {M0 : List Addr} {g : Int → Int → IV} {gV : Int → Int → V} (hg : ∀ m i j, Rv m (g i j) (gV i j)) : OpI K M0 (rI0 gV) (fInt g) := by
  intro m S H x y vx vy Q hR rx ry h
  match vx, vy, rx, ry, h with
  | .int i, .int j, rfl, rfl, h => exact ⟨i, j, rfl, rfl, hR.here h _ (hg m i j)⟩
theorem intC_I {K : PySem.W.Frag} {M0 : List Addr} {C : Int → Int → Prop} [∀ i j, Decidable (C i j)] {g : Int → Int → IV} {gV : Int → Int → V} (hg : ∀ m i j, Rv m (g i j) (gV i j)) : OpI K M0 (rI C gV) (fIntC C g) := by
  intro m S H x y vx vy Q hR rx ry h
  match vx, vy, rx, ry, h with
  | .int i, .int j, rfl, rfl, h =>
    unfold fIntC at h
    simp only at h
    split at h
    · rename_i hc
      exact ⟨i, j, rfl, rfl, hc, hR.here h _ (hg m i j)⟩
    · exact h.elim
instance (i j : Int) : Decidable (CDiv i j) := by unfold CDiv; exact inferInstance
instance (i j : Int) : Decidable (CPow i j) := by unfold CPow; exact inferInstance
instance (i j : Int) : Decidable (CMul i j) := by unfold CMul; exact inferInstance
abbrev fSub := fInt fun i j => .int (i - j)
abbrev fMod := fIntC (fun _ j => 0 < j) fun i j => .int (i % j)
abbrev fDiv := fIntC CDiv fun i j => .int (i / j)
abbrev fPow := fIntC CPow fun i j => .int (i ^ j.toNat)
abbrev fLt := fInt fun i j => .bl (decide (i < j))
abbrev fLe := fInt fun i j => .bl (decide (i ≤ j))
abbrev fGt := fInt fun i j => .bl (decide (j < i))
abbrev fGe := fInt fun i j => .bl (decide (j ≤ i))
def fMul (x y : IV) (S : Sto) : R3 IV := match x, y with
  | .int i, .int j => if CMul i j then .ok (.int (i * j)) S else .no
  | .ref a, .int k => (match getM S a with
    | some xs => if -(2 ^ 63) ≤ k ∧ k < 2 ^ 63 ∧ xs.length * k.toNat ≤ 100000 then .ok (.ref S.n) (S.put (.lst (List.replicate k.toNat xs).flatten)) else .no
    | none => .no)
  | _, _ => .no
def rMulI : R2 := fun x y H Q => rI CMul (fun i j => .int (i * j)) x y H Q ∨ rRep x y H Q
theorem mul_op {X : Cx} : OpR X (binaryOp .Mult) rMulI := OpR.or op_mul op_rep
theorem rep_rel {m : List Addr} {xs : List IV} {ys : List V} (r : Rvs m xs ys) : ∀ n : Nat, Rvs m (List.replicate n xs).flatten (List.replicate n ys).flatten
  | 0 => .nil
  | n + 1 => by
    rw [List.replicate_succ, List.replicate_succ, List.flatten_cons, List.flatten_cons]
    exact append_rel r (rep_rel r n)
theorem mul_I {K : PySem.W.Frag} {M0 : List Addr} : OpI K M0 rMulI fMul := by
  intro m S H x y vx vy Q hR rx ry h
  match vx, vy, rx, ry, h with
  | .int i, .int j, rfl, rfl, h =>
    unfold fMul at h
    simp only at h
    split at h
    · rename_i hc
      exact .inl ⟨i, j, rfl, rfl, hc, hR.here h _ rfl⟩
    · exact h.elim
  | .ref la, .int k, ⟨a, fa, ea⟩, rfl, h =>
    subst ea
    unfold fMul at h
    simp only at h
    cases ga : RI.getM S la with
    | none => simp only [ga] at h; exact h.elim
    | some xs =>
      simp only [ga] at h
      obtain ⟨_, us, hu, ru⟩ := hR.getM ga fa
      split at h
      · rename_i hc
        exact .inr ⟨a, k, us, rfl, rfl, hu, hc.1, hc.2.1, line_ok (by rw [← ru.length]; exact hc.2.2), fun p hp => hR.newL (rep_rel ru _) h p hp⟩
      · exact h.elim
def fNeg (x : IV) (S : Sto) : R3 IV := match x with | .int i => .ok (.int (-i)) S | _ => .no
theorem neg_I {K : PySem.W.Frag} {M0 : List Addr} : UnI K M0 (rU fun i => .int (-i)) fNeg := by
  intro m S H x vx Q hR rx h
  match vx, rx, h with
  | .int i, rfl, h => exact ⟨i, rfl, hR.here h _ rfl⟩

/-! ### is, in -/
def fIs (neg : Bool) (x y : IV) (S : Sto) : R3 IV := match y with
  | .non => (match x with | .non => .ok (.bl (!neg)) S | .ty _ => .ok (.bl neg) S | _ => .ok (.bl neg) S)
  | .bl b => (match x with | .bl a => .ok (.bl (if neg then !decide (a = b) else decide (a = b))) S | _ => .no)
  | _ => .no
def rIsI : R2 := fun x y H Q => (y = .non ∧ Q (.bl (decide (x = .non))) H) ∨ rIsB x y H Q
def rIsNI : R2 := fun x y H Q => (y = .non ∧ Q (.bl (!decide (x = .non))) H) ∨ rNotB x y H Q
theorem is_op {X : Cx} : OpR X (compareOp .Is) rIsI := OpR.or op_isN op_isBl
theorem isN_op {X : Cx} : OpR X (compareOp .IsNot) rIsNI := OpR.or op_notN op_isnot_bl
theorem non_of {m : List Addr} {v : IV} {w : V} (r : Rv m v w) : (v = .non ∧ w = .non) ∨ (v ≠ .non ∧ w ≠ .non) := by
  cases v with
  | non => exact .inl ⟨rfl, r⟩
  | ref l => obtain ⟨a, _, rfl⟩ := r; exact .inr ⟨(fun z => nomatch z), fun z => nomatch z⟩
  | _ => cases r; exact .inr ⟨(fun z => nomatch z), fun z => nomatch z⟩
theorem is_I {K : PySem.W.Frag} {M0 : List Addr} : OpI K M0 rIsI (fIs false) := by
  intro m S H x y vx vy Q hR rx ry h
  match vy, ry, h with
  | .non, rfl, h =>
    refine .inl ⟨rfl, ?_⟩
    rcases non_of rx with ⟨rfl, rfl⟩ | ⟨n1, n2⟩
    · exact hR.here h _ rfl
    · rw [decide_eq_false n2]
      cases vx with
      | non => exact absurd rfl n1
      | _ => exact hR.here h _ rfl
  | .bl b, rfl, h =>
    match vx, rx, h with
    | .bl a, rfl, h => exact .inr ⟨a, b, rfl, rfl, hR.here h _ rfl⟩
theorem isN_I {K : PySem.W.Frag} {M0 : List Addr} : OpI K M0 rIsNI (fIs true) := by
  intro m S H x y vx vy Q hR rx ry h
  match vy, ry, h with
  | .non, rfl, h =>
    refine .inl ⟨rfl, ?_⟩
    rcases non_of rx with ⟨rfl, rfl⟩ | ⟨n1, n2⟩
    · exact hR.here h _ rfl
    · rw [decide_eq_false n2]
      cases vx with
      | non => exact absurd rfl n1
      | _ => exact hR.here h _ rfl
  | .bl b, rfl, h =>
    match vx, rx, h with
    | .bl a, rfl, h => exact .inr ⟨a, b, rfl, rfl, hR.here h _ rfl⟩

def flatI : IV → Bool
  | .non | .bl _ | .int _ | .str _ => true
  | _ => false
def eqF : IV → IV → Bool
  | .non, .non => true
  | .bl a, .bl b => a == b
  | .bl a, .int b => (if a then 1 else 0) == b
  | .int a, .bl b => a == (if b then 1 else 0)
  | .int a, .int b => a == b
  | .str a, .str b => a == b
  | _, _ => false
def inF (x : IV) (xs : List IV) : Bool := xs.any fun y => eqF y x
def getS (S : Sto) (l : Nat) : Option (List IV) := match S.get l with | some (.lst xs) => some xs | some (.tup xs) => some xs | some (.fl xs) => some xs | _ => none
theorem R.getS {K : PySem.W.Frag} {M0 m : List Addr} {S : Sto} {H : Hp} (h : R K M0 m S H) {l : Nat} {xs : List IV} {a : Addr} (e : getS S l = some xs) (f : m[l]? = some a) : ∃ ys, (SqL K H a ys ∨ SqT K H a ys) ∧ Rvs m xs ys := by
  unfold RI.getS at e
  split at e
  · rename_i zs g
    cases e
    obtain ⟨a', f', ys, e1, r⟩ := h.obj l _ g
    rw [f] at f'; cases f'
    exact ⟨ys, .inl (.of e1), r⟩
  · rename_i zs g
    cases e
    obtain ⟨a', f', ys, e1, r⟩ := h.obj l _ g
    rw [f] at f'; cases f'
    exact ⟨ys, .inr e1, r⟩
  · rename_i zs g
    cases e
    obtain ⟨a', f', ys, e1, r⟩ := h.obj l _ g
    rw [f] at f'; cases f'
    exact ⟨ys, .inl e1.l, r⟩
  · cases e
def fIn (neg : Bool) (x y : IV) (S : Sto) : R3 IV := match y with
  | .ref l => (match getS S l with | some xs => if flatI x && xs.all flatI then .ok (.bl (if neg then !inF x xs else inF x xs)) S else .no | none => .no)
  | _ => .no
theorem flat_rel {m : List Addr} {v : IV} {w : V} (r : Rv m v w) (f : flatI v = true) : flatV w = true := by
  cases v with
  | non => cases r; rfl
  | bl _ => cases r; rfl
  | int _ => cases r; rfl
  | str _ => cases r; rfl
  | _ => cases f
theorem eqF_rel {m : List Addr} {v v' : IV} {w w' : V} (r : Rv m v w) (r' : Rv m v' w') (f : flatI v = true) (f' : flatI v' = true) : eqV w w' = eqF v v' := by
  cases v with
  | non => cases r; cases v' with | non => cases r'; rfl | bl _ => cases r'; rfl | int _ => cases r'; rfl | str _ => cases r'; rfl | _ => cases f'
  | bl _ => cases r; cases v' with | non => cases r'; rfl | bl _ => cases r'; rfl | int _ => cases r'; rfl | str _ => cases r'; rfl | _ => cases f'
  | int _ => cases r; cases v' with | non => cases r'; rfl | bl _ => cases r'; rfl | int _ => cases r'; rfl | str _ => cases r'; rfl | _ => cases f'
  | str _ => cases r; cases v' with | non => cases r'; rfl | bl _ => cases r'; rfl | int _ => cases r'; rfl | str _ => cases r'; rfl | _ => cases f'
  | _ => cases f
theorem flat_all {m : List Addr} {xs : List IV} {ys : List V} (r : Rvs m xs ys) (f : xs.all flatI = true) : ys.all flatV = true := by
  induction r with
  | nil => rfl
  | cons h t ih =>
    rw [List.all_cons, Bool.and_eq_true] at f ⊢
    exact ⟨flat_rel h f.1, ih f.2⟩
theorem in_rel {m : List Addr} {x : IV} {w : V} {xs : List IV} {ys : List V} (rx : Rv m x w) (r : Rvs m xs ys) (fx : flatI x = true) (f : xs.all flatI = true) : inV w ys = inF x xs := by
  induction r with
  | nil => rfl
  | cons h t ih =>
    rw [List.all_cons, Bool.and_eq_true] at f
    show (eqV _ w || inV w _) = (eqF _ x || inF x _)
    rw [ih f.2, eqF_rel h rx f.1 fx]
theorem in_I {K : PySem.W.Frag} {M0 : List Addr} {neg : Bool} : OpI K M0 (rIn K neg) (fIn neg) := by
  intro m S H x y vx vy Q hR rx ry h
  match vy, ry, h with
  | .ref l, ⟨a, fa, ea⟩, h =>
    subst ea
    unfold fIn at h
    simp only at h
    cases g : RI.getS S l with
    | none => simp only [g] at h; exact h.elim
    | some xs =>
      simp only [g] at h
      obtain ⟨ys, hy, r⟩ := hR.getS g fa
      split at h
      · rename_i hf
        rw [Bool.and_eq_true] at hf
        refine ⟨a, ys, rfl, hy, flat_rel rx hf.1, flat_all r hf.2, ?_⟩
        rw [in_rel rx r hf.1 hf.2]
        exact hR.here h _ rfl
      · exact h.elim

/-! ### subscripts -/
def fIx (x y : IV) (S : Sto) : R3 IV := match x, y with
  | .ref l, .int i => (match getS S l with | some xs => (match atI xs i with | some v => .ok v S | none => .no) | none => .no)
  | _, _ => .no
theorem at_rel {m : List Addr} {xs : List IV} {ys : List V} {i : Int} {v : IV} (r : Rvs m xs ys) (e : atI xs i = some v) : ∃ w, atI ys i = some w ∧ Rv m v w := by
  unfold atI at e ⊢
  rw [← r.length]
  cases g : ixN xs.length i with
  | none => rw [g] at e; cases e
  | some j =>
    rw [g] at e
    have e : xs[j]? = some v := e
    rcases r.at j with ⟨e1, _⟩ | ⟨v', w, e1, e2, q⟩
    · rw [e1] at e; cases e
    · rw [e1] at e; cases e
      exact ⟨w, e2, q⟩
theorem ix_I {K : PySem.W.Frag} {M0 : List Addr} : OpI K M0 (rIx K) fIx := by
  intro m S H x y vx vy Q hR rx ry h
  cases vx with
  | ref l =>
    cases vy with
    | int i =>
      obtain ⟨a, fa, ea⟩ := rx
      have ry : y = .int i := ry
      subst ea ry
      have h : Sat K M0 m (match getS S l with | some xs => (match atI xs i with | some v => R3.ok v S | none => .no) | none => .no) (fun m' v _ H' => ∀ w, Rv m' v w → Q w H') := h
      cases g : RI.getS S l with
      | none => rw [g] at h; exact h.elim
      | some xs =>
        rw [g] at h
        obtain ⟨ys, hy, r⟩ := hR.getS g fa
        cases g2 : atI xs i with
        | none => simp only [g2] at h; exact h.elim
        | some v =>
          simp only [g2] at h
          obtain ⟨w, e2, q⟩ := at_rel r g2
          have fin : Q w H := hR.here h _ q
          clear h
          rcases hy with hy | hy
          · exact .inl ⟨a, ys, i, w, rfl, rfl, hy, e2, fin⟩
          · exact .inr (.inl ⟨a, ys, i, w, rfl, rfl, hy, e2, fin⟩)
    | _ => exact h.elim
  | _ => exact h.elim

/-! ### general targets: a, b = ..; xs[i], y = .. -/
abbrev DG := IV → Sl → Sto → R3 Sl
def tIG (K : PySem.W.Frag) (M0 : List Addr) (g : DG) : TG := fun v σ H Q => ∃ m σi S iv, R K M0 m S H ∧ Rs m σi σ ∧ Rv m iv v ∧ Sat K M0 m (g iv σi S) fun m' σ' _ H' => ∀ σ1, Rs m' σ' σ1 → Q σ1 H'
def gdName (i : Nat) : DG := fun v σ S => .ok (σ.set i (some v)) S
def gdPair (a b : DG) : DG := fun v σ S => match v with
  | .ref l => (match getT S l with | some [x, y] => (a x σ S).bind fun σ1 S1 => b y σ1 S1 | _ => .no)
  | _ => .no
def gdSub (da di : DE) : DG := fun v σ S => (da σ S).bind fun o S1 => (di σ S1).bind fun i S2 => match o, i with
  | .ref l, .int k => (match getM S2 l with | some xs => (match ixN xs.length k with | some j => .ok σ (S2.set l (.lst (xs.set j v))) | none => .no) | none => .no)
  | _, _ => .no
def dAsgG (d : DE) (g : DG) : DS := fun σ S => match (d σ S).bind fun v S1 => g v σ S1 with | .ok σ' S' => .nx σ' S' | .no => .no
theorem PG.imp {X : Cx} {e : Expr} {t t' : TG} (h : PG X e t) (f : ∀ v σ H Q, t' v σ H Q → t v σ H Q) : PG X e t' := ⟨fun pins s σ H v u Q I r q => h.run pins s σ H v u Q I r (f v σ H Q q)⟩
section
variable {K : PySem.W.Frag} {M0 : List Addr} {σ : L2.St} {H : Hp} {D : Ends} {d da di : DE} {g a b : DG} {v : V} {Q : L2.St → Hp → Prop}
theorem name_tG {i : Nat} (h : tIG K M0 (gdName i) v σ H Q) : gName i v σ H Q := by
  obtain ⟨m, σi, S, iv, hR, hs, r, h⟩ := h
  exact hR.here h _ (hs.set r i)
theorem pair_tG (h : tIG K M0 (gdPair a b) v σ H Q) : gTup K 2 (gCons (tIG K M0 a) (gCons (tIG K M0 b) gNil)) v σ H Q := by
  obtain ⟨m, σi, S, iv, hR, hs, r, h⟩ := h
  cases iv with
  | ref l =>
    obtain ⟨p, fp, ep⟩ := r
    subst ep
    have h : Sat K M0 m (match getT S l with | some [x, y] => (a x σi S).bind fun σ1 S1 => b y σ1 S1 | _ => .no) (fun m' σ' _ H' => ∀ σ1, Rs m' σ' σ1 → Q σ1 H') := h
    cases g : RI.getT S l with
    | none => rw [g] at h; exact h.elim
    | some xs =>
      rw [g] at h
      obtain ⟨ys, hy, r⟩ := hR.getT g fp
      clear g
      cases r with
      | nil => exact h.elim
      | cons r1 t =>
        cases t with
        | nil => exact h.elim
        | cons r2 t =>
          cases t with
          | cons _ _ => exact h.elim
          | nil =>
            rename_i x u y w
            have h : Sat K M0 m ((a x σi S).bind fun σ1 S1 => b y σ1 S1) (fun m' σ' _ H' => ∀ σ1, Rs m' σ' σ1 → Q σ1 H') := h
            have h1 := h.bind
            clear h
            refine ⟨p, [u, w], rfl, hy, rfl, u, [w], rfl, m, σi, S, x, hR, hs, r1, h1.imp ?_⟩
            intro m1 σ1 S1 H1 p1 R1 h1 σ2 s2
            refine ⟨w, [], rfl, m1, σ1, S1, y, R1, s2, r2.mono p1, h1.imp ?_⟩
            intro m2 σ3 S2 H2 p2 R2 h2 σ4 s4
            exact ⟨rfl, h2 σ4 s4⟩
  | _ => exact h.elim
theorem sub_tG (h : tIG K M0 (gdSub da di) v σ H Q) : gSub (tI K M0 da) (tI K M0 di) rSetL v σ H Q := by
  obtain ⟨m, σi, S, iv, hR, hs, r, h⟩ := h
  refine ⟨m, σi, S, hR, hs, h.bind.imp fun m1 o S1 H1 p1 R1 h1 wo ro => ⟨m1, σi, S1, R1, hs.mono p1, h1.bind.imp fun m2 i S2 H2 p2 R2 h2 wi ri => ?_⟩⟩
  match o, i, ro, ri, h2 with
  | .ref l, .int k, ⟨a, fa, ea⟩, rfl, h2 =>
    subst ea
    simp only at h2
    cases g : RI.getM S2 l with
    | none => simp only [g] at h2; exact h2.elim
    | some xs =>
      simp only [g] at h2
      obtain ⟨gl, ys, hy, rr⟩ := R2.getM g (pre_get p2 fa)
      cases g2 : ixN xs.length k with
      | none => simp only [g2] at h2; exact h2.elim
      | some j =>
        simp only [g2] at h2
        have rr' : Rvs m2 (xs.set j iv) (ys.set j v) := by
          clear g2 h2 gl hy g
          have rv := (r.mono p1).mono p2
          induction rr generalizing j with
          | nil => exact .nil
          | cons h t ih =>
            cases j with
            | zero => exact .cons rv t
            | succ j => exact .cons h (ih j)
        refine ⟨a, ys, k, j, rfl, rfl, hy, by rw [← rr.length]; exact g2, ?_⟩
        exact h2 m2 _ (List.prefix_refl _) (R2.set_lst gl (pre_get p2 fa) rr') σ ((hs.mono p1).mono p2)
theorem asgG_tS (h : tIS K M0 (dAsgG d g) D σ H) : tAsg (tI K M0 d) (tIG K M0 g) D σ H := by
  obtain ⟨m, σi, S, hR, hs, h⟩ := h
  refine ⟨m, σi, S, hR, hs, ?_⟩
  unfold dAsgG at h
  cases e : d σi S with
  | no => rw [e] at h; exact h.elim
  | ok v S1 =>
    rw [e] at h
    intro m1 H1 p1 R1 w r
    refine ⟨m1, σi, S1, v, R1, hs.mono p1, r, ?_⟩
    have h : SatS K M0 m (match g v σi S1 with | .ok σ' S' => RS.nx σ' S' | .no => .no) D := h
    cases e2 : g v σi S1 with
    | no => rw [e2] at h; exact h.elim
    | ok σ' S' =>
      rw [e2] at h
      exact fun m2 H2 p2 R2 σ1 s1 => h m2 H2 σ1 (p1.trans p2) R2 s1
end
end RI
set_option maxRecDepth 100000
namespace RI
open PySem PySem.Spec PyProof.Rows L2

/-! ### data as a whole -/
mutual
def rdD : Nat → Sto → IV → Option PyData
  | 0, _, _ => none
  | n + 1, S, v => match v with
    | .non => some .none
    | .bl b => some (.bool b)
    | .int i => some (.int i)
    | .str x => some (.str x)
    | .rpr d => some (.str d.shown)
    | .ty _ => none
    | .ref l => match S.get l with
      | some (.lst xs) => (match rdDs n S xs with | some ds => some (.list ds) | none => none)
      | some (.fl xs) => (match rdDs n S xs with | some ds => some (.list ds) | none => none)
      | some (.tup xs) => (match rdDs n S xs with | some ds => some (.tuple ds) | none => none)
      | none => none
def rdDs : Nat → Sto → List IV → Option (List PyData)
  | 0, _, _ => none
  | n + 1, S, [] => some []
  | n + 1, S, v :: vs => match rdD n S v with
    | some d => (match rdDs n S vs with | some ds => some (d :: ds) | none => none)
    | none => none
end
mutual
theorem rdD_rel {K : PySem.W.Frag} {M0 m : List Addr} {S : Sto} {H : Hp} (hR : R K M0 m S H) : ∀ (n : Nat) (v : IV) (w : V) (d : PyData), Rv m v w → rdD n S v = some d → Dp K H w d
  | 0, _, _, _, _, e => by simp [rdD] at e
  | n + 1, v, w, d, r, e => by
    unfold rdD at e
    cases v with
    | non => cases r; cases e; exact .non
    | bl b => cases r; cases e; exact .bl b
    | int i => cases r; cases e; exact .int i
    | str x => cases r; cases e; exact .str x
    | rpr x => cases r; cases e; exact .str _
    | ty _ => cases e
    | ref l =>
      obtain ⟨a, fa, rfl⟩ := r
      simp only at e
      cases g : S.get l with
      | none => rw [g] at e; cases e
      | some o =>
        rw [g] at e
        obtain ⟨a', fa', q⟩ := hR.obj l o g
        rw [fa] at fa'; cases fa'
        cases o with
        | lst xs =>
          obtain ⟨ys, hy, ry⟩ := q
          simp only at e
          cases e2 : rdDs n S xs with
          | none => rw [e2] at e; cases e
          | some ds => rw [e2] at e; cases e; exact .lst (.of hy) (rdDs_rel hR n xs ys ds ry e2)
        | fl xs =>
          obtain ⟨ys, hy, ry⟩ := q
          simp only at e
          cases e2 : rdDs n S xs with
          | none => rw [e2] at e; cases e
          | some ds => rw [e2] at e; cases e; exact .lst hy.l (rdDs_rel hR n xs ys ds ry e2)
        | tup xs =>
          obtain ⟨ys, hy, ry⟩ := q
          simp only at e
          cases e2 : rdDs n S xs with
          | none => rw [e2] at e; cases e
          | some ds => rw [e2] at e; cases e; exact .tup hy (rdDs_rel hR n xs ys ds ry e2)
theorem rdDs_rel {K : PySem.W.Frag} {M0 m : List Addr} {S : Sto} {H : Hp} (hR : R K M0 m S H) : ∀ (n : Nat) (vs : List IV) (ws : List V) (ds : List PyData), Rvs m vs ws → rdDs n S vs = some ds → DpAll K H ws ds
  | 0, _, _, _, _, e => by simp [rdDs] at e
  | n + 1, [], _, ds, r, e => by
    cases r
    simp only [rdDs] at e
    cases e
    exact .nil
  | n + 1, v :: vs, _, ds, r, e => by
    cases r with
    | cons r1 r2 =>
      unfold rdDs at e
      cases e1 : rdD n S v with
      | none => rw [e1] at e; cases e
      | some d =>
        rw [e1] at e
        simp only at e
        cases e2 : rdDs n S vs with
        | none => rw [e2] at e; cases e
        | some ds' =>
          rw [e2] at e
          cases e
          exact .cons (rdD_rel hR n v _ d r1 e1) (rdDs_rel hR n vs _ ds' r2 e2)
end
mutual
def eqD : PyData → PyData → Bool
  | .none, .none => true
  | .bool a, .bool b => a == b
  | .int a, .int b => decide (a = b)
  | .str a, .str b => decide (a = b)
  | .list a, .list b => eqDs a b
  | .tuple a, .tuple b => eqDs a b
  | _, _ => false
def eqDs : List PyData → List PyData → Bool
  | [], [] => true
  | a :: as, b :: bs => eqD a b && eqDs as bs
  | _, _ => false
end
mutual
theorem eqD_eq : ∀ (a b : PyData), eqD a b = true → a = b
  | .none, b, h => by cases b <;> simp_all [eqD]
  | .bool _, b, h => by cases b <;> simp_all [eqD]
  | .int _, b, h => by cases b <;> simp_all [eqD]
  | .str _, b, h => by cases b <;> simp_all [eqD]
  | .list xs, b, h => by
    cases b with
    | list ys => rw [eqDs_eq xs ys (by simpa [eqD] using h)]
    | _ => simp [eqD] at h
  | .tuple xs, b, h => by
    cases b with
    | tuple ys => rw [eqDs_eq xs ys (by simpa [eqD] using h)]
    | _ => simp [eqD] at h
  | .dict _, b, h => by cases b <;> simp [eqD] at h
theorem eqDs_eq : ∀ (a b : List PyData), eqDs a b = true → a = b
  | [], [], _ => rfl
  | [], _ :: _, h => by simp [eqDs] at h
  | _ :: _, [], h => by simp [eqDs] at h
  | a :: as, b :: bs, h => by
    simp only [eqDs, Bool.and_eq_true] at h
    rw [eqD_eq a b h.1, eqDs_eq as bs h.2]
end

/-! ### == and != -/
def eqV2 (x y : IV) (S : Sto) : Option Bool := match x, y with
  | .int i, .int j => some (decide (i = j))
  | .bl a, .bl b => some (decide (a = b))
  | .non, .non => some true
  | .non, .int _ => some false
  | .int _, .non => some false
  | .str a, .str b => some (decide (a = b))
  | .rpr d, .rpr e => if eqD d e then some true else none
  | x, y => match rdD 60 S x with
    | some d => (match rdD 60 S y with
      | some e => if SeqAt.shaped d && SeqAt.shaped e then some (PyData.eqv d e) else none
      | none => none)
    | none => none
def fEq (x y : IV) (S : Sto) : R3 IV := match eqV2 x y S with | some b => .ok (.bl b) S | none => .no
def fNe (x y : IV) (S : Sto) : R3 IV := match eqV2 x y S with | some b => .ok (.bl (!b)) S | none => .no
def rEqI (K : PySem.W.Frag) : R2 := fun x y H Q => rEq x y H Q ∨ rEqD K x y H Q
def rNeI (K : PySem.W.Frag) : R2 := fun x y H Q => rNe x y H Q ∨ rNeD K x y H Q
theorem eq_op {X : Cx} (hu : X.A.units + 64 < cLine) : OpR X (compareOp .Eq) (rEqI X.K) := OpR.or op_eq (op_eqD hu)
theorem ne_op {X : Cx} (hu : X.A.units + 64 < cLine) : OpR X (compareOp .NotEq) (rNeI X.K) := OpR.or op_ne (op_neD hu)
theorem eqV2_rel {K : PySem.W.Frag} {M0 m : List Addr} {S : Sto} {H : Hp} (hR : R K M0 m S H) {x y : IV} {u w : V} {b : Bool} (rx : Rv m x u) (ry : Rv m y w) (e : eqV2 x y S = some b) :
    (scal u w = true ∧ decide (u = w) = b) ∨ ∃ d e, Dp K H u d ∧ Dp K H w e ∧ SeqAt.shaped d = true ∧ SeqAt.shaped e = true ∧ PyData.eqv d e = b := by
  unfold eqV2 at e
  split at e
  · cases rx; cases ry; cases e; exact .inl ⟨rfl, by simp⟩
  · cases rx; cases ry; cases e; exact .inl ⟨rfl, by simp⟩
  · cases rx; cases ry; cases e; exact .inl ⟨rfl, by simp⟩
  · cases rx; cases ry; cases e; exact .inl ⟨rfl, by simp⟩
  · cases rx; cases ry; cases e; exact .inl ⟨rfl, by simp⟩
  · cases rx; cases ry; cases e; exact .inl ⟨rfl, by simp⟩
  · cases rx; cases ry
    split at e
    · rename_i h
      cases e
      rw [eqD_eq _ _ h]
      exact .inl ⟨rfl, by simp⟩
    · cases e
  · split at e
    · rename_i d hd
      split at e
      · rename_i d2 hd2
        split at e
        · rename_i hs
          cases e
          rw [Bool.and_eq_true] at hs
          exact .inr ⟨d, d2, rdD_rel hR 60 _ _ _ rx hd, rdD_rel hR 60 _ _ _ ry hd2, hs.1, hs.2, rfl⟩
        · cases e
      · cases e
    · cases e
theorem eq_I {K : PySem.W.Frag} {M0 : List Addr} : OpI K M0 (rEqI K) fEq := by
  intro m S H x y vx vy Q hR rx ry h
  unfold fEq at h
  cases e : eqV2 vx vy S with
  | none => rw [e] at h; exact h.elim
  | some b =>
    rw [e] at h
    rcases eqV2_rel hR rx ry e with ⟨h1, h2⟩ | ⟨d, d2, h1, h2, h3, h4, h5⟩
    · exact .inl ⟨h1, by rw [h2]; exact hR.here h _ rfl⟩
    · exact .inr ⟨d, d2, h1, h2, h3, h4, by rw [h5]; exact hR.here h _ rfl⟩
theorem ne_I {K : PySem.W.Frag} {M0 : List Addr} : OpI K M0 (rNeI K) fNe := by
  intro m S H x y vx vy Q hR rx ry h
  unfold fNe at h
  cases e : eqV2 vx vy S with
  | none => rw [e] at h; exact h.elim
  | some b =>
    rw [e] at h
    rcases eqV2_rel hR rx ry e with ⟨h1, h2⟩ | ⟨d, d2, h1, h2, h3, h4, h5⟩
    · exact .inl ⟨h1, by rw [h2]; exact hR.here h _ rfl⟩
    · exact .inr ⟨d, d2, h1, h2, h3, h4, by rw [h5]; exact hR.here h _ rfl⟩

/-! ### repr -/
mutual
def shB : PyData → Option Nat
  | .none => some 4
  | .bool _ => some 5
  | .int i => if i.natAbs < 10 ^ 30 then some 31 else none
  | .str _ => none
  | .list xs => (match shBs xs with | some n => some (n + 3) | none => none)
  | .tuple xs => (match shBs xs with | some n => some (n + 3) | none => none)
  | .dict _ => none
def shBs : List PyData → Option Nat
  | [] => some 0
  | x :: xs => match shB x with
    | some n => (match shBs xs with | some k => some (n + 2 + k) | none => none)
    | none => none
end
mutual
theorem shB_ok : ∀ (d : PyData) (n : Nat), shB d = some n → d.shown.length ≤ n ∧ d.showable = true ∧ d.hasDict = false
  | .none, n, h => by
    cases h
    exact ⟨by decide, by simp [PyData.showable], by simp [PyData.hasDict]⟩
  | .bool b, n, h => by
    cases h
    exact ⟨by cases b <;> decide, by simp [PyData.showable], by simp [PyData.hasDict]⟩
  | .int i, n, h => by
    unfold shB at h
    split at h
    · rename_i hi
      cases h
      refine ⟨?_, ?_, by simp [PyData.hasDict]⟩
      · show (Str.ofString (toString i)).length ≤ 31
        have := int_text_length_le10 (a := i) (k := 30) (by decide) hi
        rw [PySem.ofString_length]
        exact this
      · simp only [PyData.showable, decide_eq_true_eq]
        by_cases h0 : i.natAbs = 0
        · rw [h0]; decide
        · exact Nat.lt_of_lt_of_le ((Nat.log2_lt h0).mpr (Nat.lt_of_lt_of_le hi (by decide : 10 ^ 30 ≤ 2 ^ 100))) (by decide)
    · cases h
  | .str _, n, h => by cases h
  | .dict _, n, h => by cases h
  | .list xs, n, h => by
    unfold shB at h
    cases e : shBs xs with
    | none => rw [e] at h; cases h
    | some k =>
      rw [e] at h
      cases h
      obtain ⟨h1, h2, h3⟩ := shBs_ok xs k e
      have hl := listText_len_le (PyData.shownAll xs)
      refine ⟨?_, by simpa [PyData.showable] using h2, by simpa [PyData.hasDict] using h3⟩
      show (listText (PyData.shownAll xs)).length ≤ k + 3
      omega
  | .tuple xs, n, h => by
    unfold shB at h
    cases e : shBs xs with
    | none => rw [e] at h; cases h
    | some k =>
      rw [e] at h
      cases h
      obtain ⟨h1, h2, h3⟩ := shBs_ok xs k e
      have hl := tupleText_len_le (PyData.shownAll xs)
      refine ⟨?_, by simpa [PyData.showable] using h2, by simpa [PyData.hasDict] using h3⟩
      show (tupleText (PyData.shownAll xs)).length ≤ k + 3
      omega
theorem shBs_ok : ∀ (ds : List PyData) (n : Nat), shBs ds = some n → ((PyData.shownAll ds).map (·.length)).sum + 2 * (PyData.shownAll ds).length ≤ n ∧ PyData.showableAll ds = true ∧ PyData.hasDictAll ds = false
  | [], n, h => by
    cases h
    exact ⟨by simp [PyData.shownAll], by simp [PyData.showableAll], by simp [PyData.hasDictAll]⟩
  | d :: ds, n, h => by
    unfold shBs at h
    cases e : shB d with
    | none => rw [e] at h; cases h
    | some k =>
      rw [e] at h
      simp only at h
      cases e2 : shBs ds with
      | none => rw [e2] at h; cases h
      | some j =>
        rw [e2] at h
        cases h
        obtain ⟨a1, a2, a3⟩ := shB_ok d k e
        obtain ⟨b1, b2, b3⟩ := shBs_ok ds j e2
        refine ⟨?_, by simp [PyData.showableAll, a2, b2], by simp [PyData.hasDictAll, a3, b3]⟩
        simp only [PyData.shownAll, List.map_cons, List.sum_cons, List.length_cons]
        omega
end
def fRepr (vs : List IV) (S : Sto) : R3 IV := match vs with
  | [v] => (match rdD 60 S v with
    | some d => (match shB d with | some n => if n ≤ 100000 ∧ d.depth ≤ 40 then .ok (.rpr d) S else .no | none => .no)
    | none => .no)
  | _ => .no
def rRepr (K : PySem.W.Frag) : List V → Hp → VK → Prop := fun xs H Q => ∃ x d, xs = [x] ∧ Dp K H x d ∧ d.showable = true ∧ d.hasDict = false ∧ d.shown.length ≤ sizeLine ∧ d.depth ≤ 40 ∧ (∀ i, d ≠ .str i) ∧ Q (.str d.shown) H
theorem call_repr {X : Cx} (hg : X.A.guards = some []) (hu : X.A.units + 64 < cLine) : CallR X (.builtin "repr") (rRepr X.K) := by
  intro pins s σ H xs us Q I r h
  obtain ⟨x, d, rfl, hd, h1, h2, h3, h4, h5, q⟩ := h
  match us, r with
  | [u], .cons ru .nil =>
    obtain ⟨as, rd⟩ := Dp.reads I d x u hd ru
    cases d with
    | none => cases rd; exact P.repr_of_none ⟨.str _, H, I.tok _, ⟨_, rfl⟩, q⟩
    | bool b => cases rd; exact P.repr_of_bool ⟨.str _, H, I.tok _, ⟨_, rfl⟩, q⟩
    | int i =>
      cases rd
      exact P.repr_of_int (of_decide_eq_true (by simpa [PyData.showable] using h1)) ⟨.str _, H, I.tok _, ⟨_, rfl⟩, q⟩
    | str y => exact absurd rfl (h5 y)
    | dict _ => simp [PyData.hasDict] at h2
    | list ds =>
      cases hd
      rename_i a ys ha hs
      cases ru
      exact repr_of_reads' rd h1 (fun z => by rw [h2] at z; cases z) hg (by omega) (fun b o e => e) (fun h' t tk k => ⟨.str _, H, I.kept k, ⟨_, rfl⟩, q⟩) h3
    | tuple ds =>
      cases hd
      rename_i a ys ha hs
      cases ru
      exact repr_of_reads' rd h1 (fun z => by rw [h2] at z; cases z) hg (by omega) (fun b o e => e) (fun h' t tk k => ⟨.str _, H, I.kept k, ⟨_, rfl⟩, q⟩) h3
theorem repr_I {K : PySem.W.Frag} {M0 : List Addr} : CallI K M0 (rRepr K) fRepr := by
  intro m S H xs vs Q hR r h
  match vs, xs, r, h with
  | [v], [x], .cons rx .nil, h =>
    unfold fRepr at h
    simp only at h
    cases e : rdD 60 S v with
    | none => rw [e] at h; exact h.elim
    | some d =>
      simp only [e] at h
      cases e2 : shB d with
      | none => simp only [e2] at h; exact h.elim
      | some n =>
        simp only [e2] at h
        split at h
        · rename_i hn
          obtain ⟨h1, h2, h3⟩ := shB_ok d n e2
          exact ⟨x, d, rfl, rdD_rel hR 60 v x d rx e, h2, h3, line_ok (Nat.le_trans h1 hn.1), hn.2, (fun i z => by rw [z] at e2; cases e2), hR.here h _ rfl⟩
        · exact h.elim
end RI
set_option maxRecDepth 100000
namespace RI
open PySem PySem.Spec PyProof.Rows L2

/-! ### built-in functions -/
def fLen (vs : List IV) (S : Sto) : R3 IV := match vs with
  | [.ref l] => (match getS S l with | some xs => .ok (.int xs.length) S | none => .no)
  | [.str x] => if x.length ≤ 100000 then .ok (.int x.length) S else .no
  | _ => .no
def rLenI (K : PySem.W.Frag) : List V → Hp → VK → Prop := fun xs H Q => ∃ x n, xs = [x] ∧ LenV K x H n ∧ Q (.int n) H
theorem len_I {K : PySem.W.Frag} {M0 : List Addr} : CallI K M0 (rLenI K) fLen := by
  intro m S H xs vs Q hR r h
  unfold fLen at h
  split at h
  · cases r with
    | cons r1 r2 =>
      cases r2
      obtain ⟨a, fa, rfl⟩ := r1
      rename_i l
      cases g : RI.getS S l with
      | none => rw [g] at h; exact h.elim
      | some xs =>
        rw [g] at h
        obtain ⟨ys, hy, rr⟩ := hR.getS g fa
        refine ⟨.ref a, ys.length, rfl, hy.elim (fun q => .inl ⟨ys, q, rfl⟩) (fun q => .inr ⟨ys, q, rfl⟩), hR.here h _ ?_⟩
        show V.int _ = V.int _
        rw [rr.length]
  · cases r with
    | cons r1 r2 =>
      cases r2
      cases r1
      split at h
      · rename_i hl
        exact ⟨.str _, _, rfl, ⟨line_ok hl, rfl⟩, hR.here h _ rfl⟩
      · exact h.elim
  · exact h.elim
def fInt1 (vs : List IV) (S : Sto) : R3 IV := match vs with
  | [.int i] => .ok (.int i) S
  | [.bl b] => .ok (.int (if b then 1 else 0)) S
  | _ => .no
theorem int1_I {K : PySem.W.Frag} {M0 : List Addr} : CallI K M0 (fun xs H Q => (∃ i, xs = [.int i] ∧ Q (.int i) H) ∨ ∃ k, xs = [.bl k] ∧ Q (.int (if k then 1 else 0)) H) fInt1 := by
  intro m S H xs vs Q hR r h
  unfold fInt1 at h
  split at h
  · cases r with
    | cons r1 r2 => cases r2; cases r1; exact .inl ⟨_, rfl, hR.here h _ rfl⟩
  · cases r with
    | cons r1 r2 => cases r2; cases r1; exact .inr ⟨_, rfl, hR.here h _ rfl⟩
  · exact h.elim
def fAbs (vs : List IV) (S : Sto) : R3 IV := match vs with
  | [.int i] => .ok (.int (if i < 0 then -i else i)) S
  | _ => .no
theorem abs_I {K : PySem.W.Frag} {M0 : List Addr} : CallI K M0 (fun xs H Q => ∃ i, xs = [.int i] ∧ Q (.int (if i < 0 then -i else i)) H) fAbs := by
  intro m S H xs vs Q hR r h
  unfold fAbs at h
  split at h
  · cases r with
    | cons r1 r2 => cases r2; cases r1; exact ⟨_, rfl, hR.here h _ rfl⟩
  · exact h.elim
def fMax2 (vs : List IV) (S : Sto) : R3 IV := match vs with
  | [.int i, .int j] => .ok (.int (if j > i then j else i)) S
  | _ => .no
theorem max2_I {K : PySem.W.Frag} {M0 : List Addr} : CallI K M0 (fun xs H Q => ∃ i j, xs = [.int i, .int j] ∧ Q (.int (if j > i then j else i)) H) fMax2 := by
  intro m S H xs vs Q hR r h
  unfold fMax2 at h
  split at h
  · cases r with
    | cons r1 r2 => cases r2 with | cons r2 r3 => cases r3; cases r1; cases r2; exact ⟨_, _, rfl, hR.here h _ rfl⟩
  · exact h.elim
def fMin2 (vs : List IV) (S : Sto) : R3 IV := match vs with
  | [.int i, .int j] => .ok (.int (if j < i then j else i)) S
  | _ => .no
theorem min2_I {K : PySem.W.Frag} {M0 : List Addr} : CallI K M0 (fun xs H Q => ∃ i j, xs = [.int i, .int j] ∧ Q (.int (if j < i then j else i)) H) fMin2 := by
  intro m S H xs vs Q hR r h
  unfold fMin2 at h
  split at h
  · cases r with
    | cons r1 r2 => cases r2 with | cons r2 r3 => cases r3; cases r1; cases r2; exact ⟨_, _, rfl, hR.here h _ rfl⟩
  · exact h.elim
def fDivmod (vs : List IV) (S : Sto) : R3 IV := match vs with
  | [.int i, .int j] => if CDiv i j then .ok (.ref S.n) (S.put (.tup [.int (i / j), .int (i % j)])) else .no
  | _ => .no
theorem divmod_I {K : PySem.W.Frag} {M0 : List Addr} : CallI K M0 (fun xs H Q => ∃ i j, xs = [.int i, .int j] ∧ CDiv i j ∧ ∀ p, H p = none → Q (.ref p) (upd H p (.tup [.int (i / j), .int (i % j)]))) fDivmod := by
  intro m S H xs vs Q hR r h
  unfold fDivmod at h
  split at h
  · cases r with
    | cons r1 r2 =>
      cases r2 with
      | cons r2 r3 =>
        cases r3; cases r1; cases r2
        split at h
        · rename_i hc
          exact ⟨_, _, rfl, hc, fun p hp => hR.newT (.cons (show Rv m (.int _) (.int _) from rfl) (.cons (show Rv m (.int _) (.int _) from rfl) .nil)) h p hp⟩
        · exact h.elim
  · exact h.elim
def fList (vs : List IV) (S : Sto) : R3 IV := match vs with
  | [.ref l] => (match getS S l with | some xs => .ok (.ref S.n) (S.put (.lst xs)) | none => .no)
  | _ => .no
theorem list_I {K : PySem.W.Frag} {M0 : List Addr} : CallI K M0 (fun xs H Q => ∃ p ys, xs = [.ref p] ∧ (SqL K H p ys ∨ SqT K H p ys) ∧ ∀ l, H l = none → Q (.ref l) (upd H l (.lst ys))) fList := by
  intro m S H xs vs Q hR r h
  unfold fList at h
  split at h
  · cases r with
    | cons r1 r2 =>
      cases r2
      obtain ⟨a, fa, rfl⟩ := r1
      rename_i l
      cases g : RI.getS S l with
      | none => rw [g] at h; exact h.elim
      | some xs =>
        rw [g] at h
        obtain ⟨ys, hy, rr⟩ := hR.getS g fa
        exact ⟨a, ys, rfl, hy, fun p hp => hR.newL rr h p hp⟩
  · exact h.elim
def fTuple (vs : List IV) (S : Sto) : R3 IV := match vs with
  | [.ref l] => (match getL S l with
    | some xs => .ok (.ref S.n) (S.put (.tup xs))
    | none => match getT S l with | some _ => .ok (.ref l) S | none => .no)
  | _ => .no
theorem tuple_I {K : PySem.W.Frag} {M0 : List Addr} : CallI K M0 (fun xs H Q => ∃ p ys, xs = [.ref p] ∧ ((SqL K H p ys ∧ ∀ l, H l = none → Q (.ref l) (upd H l (.tup ys))) ∨ (SqT K H p ys ∧ Q (.ref p) H))) fTuple := by
  intro m S H xs vs Q hR r h
  unfold fTuple at h
  split at h
  · cases r with
    | cons r1 r2 =>
      cases r2
      obtain ⟨a, fa, rfl⟩ := r1
      rename_i l
      cases g : RI.getL S l with
      | some xs =>
        simp only [g] at h
        obtain ⟨ys, hy, rr⟩ := hR.getL g fa
        exact ⟨a, ys, rfl, .inl ⟨hy, fun p hp => hR.newT rr h p hp⟩⟩
      | none =>
        simp only [g] at h
        cases g2 : RI.getT S l with
        | none => simp only [g2] at h; exact h.elim
        | some xs =>
          simp only [g2] at h
          obtain ⟨ys, hy, rr⟩ := hR.getT g2 fa
          exact ⟨a, ys, rfl, .inr ⟨hy, hR.here h _ ⟨a, fa, rfl⟩⟩⟩
  · exact h.elim
def ints? : List IV → Option (List Int)
  | [] => some []
  | .int i :: vs => (match ints? vs with | some is => some (i :: is) | none => none)
  | _ :: _ => none
def bools? : List IV → Option (List Bool)
  | [] => some []
  | .bl i :: vs => (match bools? vs with | some is => some (i :: is) | none => none)
  | _ :: _ => none
theorem ints_rel {m : List Addr} : ∀ {vs : List IV} {ws : List V} {is : List Int}, Rvs m vs ws → ints? vs = some is → ws = is.map V.int
  | [], _, is, .nil, e => by cases e; rfl
  | v :: vs, _, is, .cons r t, e => by
    cases v with
    | int i =>
      unfold ints? at e
      cases g : ints? vs with
      | none => rw [g] at e; cases e
      | some js =>
        rw [g] at e
        cases e
        cases r
        rw [ints_rel t g]
        rfl
    | _ => cases e
theorem bools_rel {m : List Addr} : ∀ {vs : List IV} {ws : List V} {is : List Bool}, Rvs m vs ws → bools? vs = some is → ws = is.map V.bl
  | [], _, is, .nil, e => by cases e; rfl
  | v :: vs, _, is, .cons r t, e => by
    cases v with
    | bl i =>
      unfold bools? at e
      cases g : bools? vs with
      | none => rw [g] at e; cases e
      | some js =>
        rw [g] at e
        cases e
        cases r
        rw [bools_rel t g]
        rfl
    | _ => cases e
def fSum (vs : List IV) (S : Sto) : R3 IV := match vs with
  | [.ref l] => (match getL S l with | some xs => (match ints? xs with | some is => .ok (.int is.sum) S | none => .no) | none => .no)
  | _ => .no
theorem sum_I {K : PySem.W.Frag} {M0 : List Addr} : CallI K M0 (rSum K) fSum := by
  intro m S H xs vs Q hR r h
  unfold fSum at h
  split at h
  · cases r with
    | cons r1 r2 =>
      cases r2
      obtain ⟨a, fa, rfl⟩ := r1
      rename_i l
      cases g : RI.getL S l with
      | none => simp only [g] at h; exact h.elim
      | some xs =>
        simp only [g] at h
        obtain ⟨ys, hy, rr⟩ := hR.getL g fa
        cases g2 : ints? xs with
        | none => simp only [g2] at h; exact h.elim
        | some is =>
          simp only [g2] at h
          rw [ints_rel rr g2] at hy
          exact ⟨a, is, rfl, hy, hR.here h _ rfl⟩
  · exact h.elim
def fAny (vs : List IV) (S : Sto) : R3 IV := match vs with
  | [.ref l] => (match getL S l with | some xs => (match bools? xs with | some is => .ok (.bl (is.any id)) S | none => .no) | none => .no)
  | _ => .no
theorem any_I {K : PySem.W.Frag} {M0 : List Addr} : CallI K M0 (rAny K) fAny := by
  intro m S H xs vs Q hR r h
  unfold fAny at h
  split at h
  · cases r with
    | cons r1 r2 =>
      cases r2
      obtain ⟨a, fa, rfl⟩ := r1
      rename_i l
      cases g : RI.getL S l with
      | none => simp only [g] at h; exact h.elim
      | some xs =>
        simp only [g] at h
        obtain ⟨ys, hy, rr⟩ := hR.getL g fa
        cases g2 : bools? xs with
        | none => simp only [g2] at h; exact h.elim
        | some is =>
          simp only [g2] at h
          rw [bools_rel rr g2] at hy
          exact ⟨a, is, rfl, hy, hR.here h _ rfl⟩
  · exact h.elim
def fAll (vs : List IV) (S : Sto) : R3 IV := match vs with
  | [.ref l] => (match getL S l with | some xs => (match bools? xs with | some is => .ok (.bl (is.all id)) S | none => .no) | none => .no)
  | _ => .no
theorem all_I {K : PySem.W.Frag} {M0 : List Addr} : CallI K M0 (rAll K) fAll := by
  intro m S H xs vs Q hR r h
  unfold fAll at h
  split at h
  · cases r with
    | cons r1 r2 =>
      cases r2
      obtain ⟨a, fa, rfl⟩ := r1
      rename_i l
      cases g : RI.getL S l with
      | none => simp only [g] at h; exact h.elim
      | some xs =>
        simp only [g] at h
        obtain ⟨ys, hy, rr⟩ := hR.getL g fa
        cases g2 : bools? xs with
        | none => simp only [g2] at h; exact h.elim
        | some is =>
          simp only [g2] at h
          rw [bools_rel rr g2] at hy
          exact ⟨a, is, rfl, hy, hR.here h _ rfl⟩
  · exact h.elim

/-! ### isinstance -/
inductive Tn where
  | non | bool | int | str | list | tuple | dict
def Tn.name : Tn → String
  | .non => "NoneType" | .bool => "bool" | .int => "int" | .str => "str" | .list => "list" | .tuple => "tuple" | .dict => "dict"
def isTn : Tn → Tn → Bool
  | .non, .non => true | .bool, .bool => true | .bool, .int => true | .int, .int => true | .str, .str => true | .list, .list => true | .tuple, .tuple => true | .dict, .dict => true
  | _, _ => false
theorem isTn_ok (a b : Tn) : kitB a.name b.name = some (isTn a b) := by
  cases a <;> cases b <;> decide +kernel
def tnI (x : IV) (S : Sto) : Option Tn := match x with
  | .non => some .non | .bl _ => some .bool | .int _ => some .int | .str _ => some .str | .rpr _ => some .str | .ty _ => none
  | .ref l => match S.get l with | some (.lst _) => some .list | some (.fl _) => some .list | some (.tup _) => some .tuple | none => none
theorem tnI_rel {K : PySem.W.Frag} {M0 m : List Addr} {S : Sto} {H : Hp} (hR : R K M0 m S H) {x : IV} {w : V} {t : Tn} (r : Rv m x w) (e : tnI x S = some t) : TyX K H w (.type t.name) := by
  unfold tnI at e
  cases x with
  | non => cases r; cases e; exact .base .non
  | bl b => cases r; cases e; exact .base (.bl b)
  | int i => cases r; cases e; exact .base (.int i)
  | str i => cases r; cases e; exact .base (.str i)
  | rpr i => cases r; cases e; exact .base (.str _)
  | ty _ => cases e
  | ref l =>
    obtain ⟨a, fa, rfl⟩ := r
    simp only at e
    cases g : S.get l with
    | none => rw [g] at e; cases e
    | some o =>
      rw [g] at e
      obtain ⟨a', fa', q⟩ := hR.obj l o g
      rw [fa] at fa'; cases fa'
      cases o with
      | lst xs => obtain ⟨ys, hy, _⟩ := q; cases e; exact .base (.lst hy)
      | fl xs =>
        obtain ⟨ys, hy, _⟩ := q
        cases e
        rcases hy with ⟨o, hy⟩ | ⟨o, its, n, hk, hc, _⟩
        · exact .base (.frz hy)
        · exact .kList hk hc
      | tup xs =>
        obtain ⟨ys, hy, _⟩ := q
        cases e
        rcases hy with (hy | ⟨o, hy⟩) | ⟨o, its, n, hk, hc, _⟩
        · exact .base (.tup hy)
        · exact .fTuple hy
        · exact .kTuple hk hc
def dIs1 (d : DE) (t : Tn) : DE := fun σ S => (d σ S).bind fun x S1 => match tnI x S1 with | some a => .ok (.bl (isTn a t)) S1 | none => .no
def dIs2 (d : DE) (t u : Tn) : DE := fun σ S => (d σ S).bind fun x S1 => match tnI x S1 with | some a => .ok (.bl (isTn a t || isTn a u)) S1 | none => .no
section
variable {K : PySem.W.Frag} {M0 : List Addr} {σ : L2.St} {H : Hp} {Q : VK} {d : DE} {t u : Tn} {da : DA}
theorem is1_tI (h : tI K M0 (dIs1 d t) σ H Q) : tCB (rIsi K) (tCons (tI K M0 d) (tCons (tC (.ty t.name)) tNil)) σ H Q := by
  obtain ⟨m, σi, S, hR, hs, h⟩ := h
  refine ⟨m, σi, S, hR, hs, h.bind.imp fun m1 v S1 H1 p1 R1 h1 w rw' => ?_⟩
  cases e : tnI v S1 with
  | none => rw [e] at h1; exact h1.elim
  | some a =>
    rw [e] at h1
    exact ⟨w, .ty t.name, .type a.name, .type t.name, isTn a t, rfl, .ty _, tnI_rel R1 rw' e, kit_ty (isTn_ok a t), R1.here h1 _ rfl⟩
theorem is2_tI (h : tI K M0 (dIs2 d t u) σ H Q) : tCB (rIsiT K) (tCons (tI K M0 d) (tCons (tTup (tCons (tC (.ty t.name)) (tCons (tC (.ty u.name)) tNil))) tNil)) σ H Q := by
  obtain ⟨m, σi, S, hR, hs, h⟩ := h
  refine ⟨m, σi, S, hR, hs, h.bind.imp fun m1 v S1 H1 p1 R1 h1 w rw' => ?_⟩
  cases e : tnI v S1 with
  | none => rw [e] at h1; exact h1.elim
  | some a =>
    rw [e] at h1
    refine ⟨(by show 2 ≤ sizeLine; decide), fun p hp => ?_⟩
    have R2 : R K M0 m1 S1 (upd H1 p (.tup [.ty t.name, .ty u.name])) := R1.upd hp
    refine ⟨w, p, [.ty t.name, .ty u.name], .type a.name, [.type t.name, .type u.name], isTn a t || isTn a u, rfl, upd_same, .cons (.ty _) (.cons (.ty _) .nil), tnI_rel R2 rw' e, ?_, R2.here h1 _ rfl⟩
    have h2 := kit_ty (K := K) (isTn_ok a t)
    have h3 := kit_ty (K := K) (isTn_ok a u)
    cases b1 : isTn a t with
    | true =>
      rw [b1] at h2
      exact kitAny_cons h2 (fun z => by cases z) (fun _ => rfl)
    | false =>
      rw [b1] at h2
      refine kitAny_cons h2 (fun _ => kitAny_cons h3 (fun z => ?_) (fun z => ?_)) (fun z => by cases z)
      · rw [z]; rfl
      · rw [z]; rfl

/-! ### methods of lists -/
def dBM (f : IV → List IV → Sto → R3 IV) (d : DE) (da : DA) : DE := fun σ S => (d σ S).bind fun x S1 => match x with
  | .ref l => (match getL S1 l with | some _ => (da σ S1).bind fun vs S2 => f x vs S2 | none => .no)
  | _ => .no
theorem bm_tI {r : V → List V → Hp → VK → Prop} {f : IV → List IV → Sto → R3 IV} (hm : MethI K M0 r f) (h : tI K M0 (dBM f d da) σ H Q) : tBM K "list" r (tI K M0 d) (tIA K M0 da) σ H Q := by
  obtain ⟨m, σi, S, hR, hs, h⟩ := h
  refine ⟨m, σi, S, hR, hs, h.bind.imp fun m1 v S1 H1 p1 R1 h1 w rw' => ?_⟩
  cases v with
  | ref l =>
    obtain ⟨a, fa, rfl⟩ := rw'
    simp only at h1
    cases g : RI.getL S1 l with
    | none => simp only [g] at h1; exact h1.elim
    | some xs =>
      simp only [g] at h1
      obtain ⟨ys, hy, _⟩ := R1.getL g fa
      refine ⟨.inl ⟨rfl, ys, hy⟩, m1, σi, S1, R1, hs.mono p1, h1.bind.imp fun m2 vs S2 H2 p2 R2 h2 ws rws => ?_⟩
      exact hm m2 S2 H2 (.ref a) (.ref l) ws vs Q R2 ⟨a, pre_get p2 fa, rfl⟩ rws h2
  | _ => exact h1.elim
end
def mAppend (x : IV) (vs : List IV) (S : Sto) : R3 IV := match x, vs with
  | .ref l, [v] => (match getM S l with | some xs => if xs.length < 100000 then .ok .non (S.set l (.lst (xs ++ [v]))) else .no | none => .no)
  | _, _ => .no
theorem append_I {K : PySem.W.Frag} {M0 : List Addr} : MethI K M0 rAppend mAppend := by
  intro m S H x vx xs vs Q hR rx r h
  unfold mAppend at h
  split at h
  · rename_i l v
    obtain ⟨a, fa, rfl⟩ := rx
    cases r with
    | cons r1 r2 =>
      cases r2
      cases g : RI.getM S l with
      | none => rw [g] at h; exact h.elim
      | some us =>
        simp only [g] at h
        obtain ⟨gl, ys, hy, rr⟩ := hR.getM g fa
        split at h
        · rename_i hl
          exact ⟨a, ys, _, rfl, rfl, hy, line_lt (by rw [← rr.length]; exact hl), h m _ (List.prefix_refl _) (hR.set_lst gl fa (append_rel rr (.cons r1 .nil))) _ rfl⟩
        · exact h.elim
  · exact h.elim
def mExtend (x : IV) (vs : List IV) (S : Sto) : R3 IV := match x, vs with
  | .ref l, [.ref b] => (match getM S l with
    | some xs => (match getM S b with | some zs => if xs.length + zs.length ≤ 100000 then .ok .non (S.set l (.lst (xs ++ zs))) else .no | none => .no)
    | none => .no)
  | _, _ => .no
theorem extend_I {K : PySem.W.Frag} {M0 : List Addr} : MethI K M0 rExtend mExtend := by
  intro m S H x vx xs vs Q hR rx r h
  unfold mExtend at h
  split at h
  · rename_i l b
    obtain ⟨a, fa, rfl⟩ := rx
    cases r with
    | cons r1 r2 =>
      cases r2
      obtain ⟨b', fb, rfl⟩ := r1
      cases g : RI.getM S l with
      | none => simp only [g] at h; exact h.elim
      | some us =>
        simp only [g] at h
        obtain ⟨gl, ys, hy, rr⟩ := hR.getM g fa
        cases g2 : RI.getM S b with
        | none => simp only [g2] at h; exact h.elim
        | some zs =>
          simp only [g2] at h
          obtain ⟨_, ws, hw, rw'⟩ := hR.getM g2 fb
          split at h
          · rename_i hl
            exact ⟨a, b', ys, ws, rfl, rfl, hy, hw, line_ok (by rw [← rr.length, ← rw'.length]; exact hl), h m _ (List.prefix_refl _) (hR.set_lst gl fa (append_rel rr rw')) _ rfl⟩
          · exact h.elim
  · exact h.elim
def findF (x : IV) : List IV → Nat → Option Nat
  | [], _ => none
  | y :: ys, i => if eqF y x then some i else findF x ys (i + 1)
def mIndex (x : IV) (vs : List IV) (S : Sto) : R3 IV := match x, vs with
  | .ref l, [v] => (match getL S l with
    | some xs => if flatI v && xs.all flatI then (match findF v xs 0 with | some j => .ok (.int (j : Nat)) S | none => .no) else .no
    | none => .no)
  | _, _ => .no
theorem findF_ok {m : List Addr} {x : IV} {w : V} (rx : Rv m x w) (fx : flatI x = true) : ∀ {xs : List IV} {ys : List V} {i j : Nat}, Rvs m xs ys → xs.all flatI = true → findF x xs i = some j →
    ∃ k z, j = i + k ∧ ys[k]? = some z ∧ eqV z w = true ∧ ∀ (n : Nat) (z' : V), n < k → ys[n]? = some z' → eqV z' w = false
  | [], _, _, _, .nil, _, e => by cases e
  | y :: ys, _, i, j, .cons r t, f, e => by
    rw [List.all_cons, Bool.and_eq_true] at f
    unfold findF at e
    split at e
    · rename_i h
      cases e
      exact ⟨0, _, rfl, rfl, by rw [eqF_rel r rx f.1 fx]; exact h, fun n z' hn => by omega⟩
    · rename_i h
      obtain ⟨k, z, e1, e2, e3, e4⟩ := findF_ok rx fx t f.2 e
      refine ⟨k + 1, z, by omega, by simpa using e2, e3, fun n z' hn hz => ?_⟩
      cases n with
      | zero =>
        simp at hz
        subst hz
        rw [eqF_rel r rx f.1 fx]
        simpa using h
      | succ n => exact e4 n z' (by omega) (by simpa using hz)
theorem index_I {K : PySem.W.Frag} {M0 : List Addr} : MethI K M0 (rIndex K) mIndex := by
  intro m S H x vx xs vs Q hR rx r h
  unfold mIndex at h
  split at h
  · rename_i l v
    obtain ⟨a, fa, rfl⟩ := rx
    cases r with
    | cons r1 r2 =>
      cases r2
      cases g : RI.getL S l with
      | none => rw [g] at h; exact h.elim
      | some us =>
        simp only [g] at h
        obtain ⟨ys, hy, rr⟩ := hR.getL g fa
        split at h
        · rename_i hf
          rw [Bool.and_eq_true] at hf
          cases g2 : findF v us 0 with
          | none => simp only [g2] at h; exact h.elim
          | some j =>
            simp only [g2] at h
            obtain ⟨k, z, e1, e2, e3, e4⟩ := findF_ok r1 hf.1 rr hf.2 g2
            have e1 : j = k := by omega
            subst e1
            exact ⟨a, ys, _, j, z, rfl, rfl, hy, flat_rel r1 hf.1, flat_all rr hf.2, e2, e3, e4, hR.here h _ rfl⟩
        · exact h.elim
  · exact h.elim
end RI
set_option maxRecDepth 100000
namespace RI
open PySem PySem.Spec PyProof.Rows L2

section
variable {X : Cx} {M0 : List Addr} {a b c e o : Expr} {es rest : List Expr} {da db dc d : DE} {ds dr dk : DA} {t u : DT} {pos p apos : Pos} {x : Str}

theorem e_var (i : Nat) (hN : X.N[i]? = some x := by rfl) (hv : Vis X.env.scope x := by first | exact Or.inl rfl | exact Or.inr (Or.inl rfl) | exact Or.inr (Or.inr rfl)) (hd : (x == ("__debug__" : Str)) = false := by decide)
    (hcd : (x == ("__classdict__" : Str)) = false := by decide) : PE X (.Name x pos) (tI X.K M0 (dVar i)) := PE.imp (pe_var hN hv hd hcd) fun _ _ _ h => var_tI h
theorem e_int {i j} : PE X (.Constant (.int i) j pos) (tI X.K M0 (dC (.int i))) := PE.imp pe_int fun _ _ _ h => c_tI (v := .int i) (fun _ _ => rfl) h
theorem e_bl {i j} : PE X (.Constant (.bool i) j pos) (tI X.K M0 (dC (.bl i))) := PE.imp pe_bl fun _ _ _ h => c_tI (v := .bl i) (fun _ _ => rfl) h
theorem e_non {j} : PE X (.Constant .none j pos) (tI X.K M0 (dC .non)) := PE.imp pe_non fun _ _ _ h => c_tI (v := .non) (fun _ _ => rfl) h
theorem e_str {i j} : PE X (.Constant (.str i) j pos) (tI X.K M0 (dC (.str i))) := PE.imp pe_str fun _ _ _ h => c_tI (v := .str i) (fun _ _ => rfl) h
theorem e_glob (i : Nat) {q : Addr} (hg : Gl X x) (hm : X.mg x = some (.ref q)) (h0 : M0[i]? = some q) (hd : (x == ("__debug__" : Str)) = false := by decide) : PE X (.Name x pos) (tI X.K M0 (dC (.ref i))) :=
  PE.imp (pe_glob hg hm (v := .ref q) rfl hd) fun _ _ _ h => c_tI (v := .ref i) (fun _ pr => ⟨q, pre_get pr h0, rfl⟩) h
theorem e_bin {op : Operator} {r : R2} {f : IV → IV → Sto → R3 IV} (ho : OpR X (binaryOp op) r) (hf : OpI X.K M0 r f) (ha : PE X a (tI X.K M0 da)) (hb : PE X b (tI X.K M0 db)) : PE X (.BinOp a op b pos) (tI X.K M0 (dOp f da db)) :=
  PE.imp (pe_op ho ha hb) fun _ _ _ h => op_tI hf h
theorem e_add (ha : PE X a (tI X.K M0 da)) (hb : PE X b (tI X.K M0 db)) : PE X (.BinOp a .Add b pos) (tI X.K M0 (dOp fAdd da db)) := e_bin add_op add_I ha hb
theorem e_sub (ha : PE X a (tI X.K M0 da)) (hb : PE X b (tI X.K M0 db)) : PE X (.BinOp a .Sub b pos) (tI X.K M0 (dOp fSub da db)) := e_bin op_sub (int_I fun _ _ _ => rfl) ha hb
theorem e_mul (ha : PE X a (tI X.K M0 da)) (hb : PE X b (tI X.K M0 db)) : PE X (.BinOp a .Mult b pos) (tI X.K M0 (dOp fMul da db)) := e_bin mul_op mul_I ha hb
theorem e_mod (ha : PE X a (tI X.K M0 da)) (hb : PE X b (tI X.K M0 db)) : PE X (.BinOp a .Mod b pos) (tI X.K M0 (dOp fMod da db)) := e_bin op_mod (intC_I fun _ _ _ => rfl) ha hb
theorem e_div (ha : PE X a (tI X.K M0 da)) (hb : PE X b (tI X.K M0 db)) : PE X (.BinOp a .FloorDiv b pos) (tI X.K M0 (dOp fDiv da db)) := e_bin op_fdiv (intC_I fun _ _ _ => rfl) ha hb
theorem e_pow (ha : PE X a (tI X.K M0 da)) (hb : PE X b (tI X.K M0 db)) : PE X (.BinOp a .Pow b pos) (tI X.K M0 (dOp fPow da db)) := e_bin op_pow (intC_I fun _ _ _ => rfl) ha hb
theorem e_neg (ha : PE X a (tI X.K M0 da)) : PE X (.UnaryOp .USub a pos) (tI X.K M0 (dUn fNeg da)) := PE.imp (pe_un un_neg ha) fun _ _ _ h => un_tI neg_I h
/-- a comparison of two: as a value, as a test -/
structure CmpK (X : Cx) (M0 : List Addr) (op : CmpOp) (f : IV → IV → Sto → R3 IV) : Prop where
  ex : ∃ r, OpR X (compareOp op) r ∧ OpI X.K M0 r f
theorem k_lt : CmpK X M0 .Lt fLt := ⟨_, op_lt, int_I fun _ _ _ => rfl⟩
theorem k_le : CmpK X M0 .LtE fLe := ⟨_, op_le, int_I fun _ _ _ => rfl⟩
theorem k_gt : CmpK X M0 .Gt fGt := ⟨_, op_gt, int_I fun _ _ _ => rfl⟩
theorem k_ge : CmpK X M0 .GtE fGe := ⟨_, op_ge, int_I fun _ _ _ => rfl⟩
theorem k_is : CmpK X M0 .Is (fIs false) := ⟨_, is_op, is_I⟩
theorem k_isN : CmpK X M0 .IsNot (fIs true) := ⟨_, isN_op, isN_I⟩
theorem k_in : CmpK X M0 .In (fIn false) := ⟨_, op_in_seq, in_I⟩
theorem k_notIn : CmpK X M0 .NotIn (fIn true) := ⟨_, op_notIn_seq, in_I⟩
theorem k_eq {k : Nat} (hr : Room k X.A) : CmpK X M0 .Eq fEq := ⟨_, eq_op hr.units, eq_I⟩
theorem k_ne {k : Nat} (hr : Room k X.A) : CmpK X M0 .NotEq fNe := ⟨_, ne_op hr.units, ne_I⟩
theorem e_cmp {op : CmpOp} {f : IV → IV → Sto → R3 IV} (k : CmpK X M0 op f) (ha : PE X a (tI X.K M0 da)) (hb : PE X b (tI X.K M0 db)) (hm : behindInMarks op b = false) : PE X (.Compare a [op] [b] pos) (tI X.K M0 (dOp f da db)) := by
  obtain ⟨r, ho, hf⟩ := k.ex
  exact PE.imp (pe_cmpR ho ha hb hm) fun _ _ _ h => op_tI hf h
theorem t_cmp {op : CmpOp} {f : IV → IV → Sto → R3 IV} (k : CmpK X M0 op f) (ha : PE X a (tI X.K M0 da)) (hb : PE X b (tI X.K M0 db)) (hm : behindInMarks op b = false) : PT X (.Compare a [op] [b] pos) (tIT X.K M0 (dtVal (dOp f da db))) := by
  obtain ⟨r, ho, hf⟩ := k.ex
  exact PT.imp (pt_cmpR ho ha hb hm) fun _ _ _ h => op_tI hf (test_tT h)
theorem e_chain {op op' : CmpOp} {f g : IV → IV → Sto → R3 IV} (k : CmpK X M0 op f) (k' : CmpK X M0 op' g) (ha : PE X a (tI X.K M0 da)) (hb : PE X b (tI X.K M0 db)) (hc : PE X c (tI X.K M0 dc)) (hm : lastMarks [op, op'] [b, c] = false := by with_unfolding_all rfl) :
    PE X (.Compare a [op, op'] [b, c] pos) (tI X.K M0 (dChain f g da db dc)) := by
  obtain ⟨r, ho, hf⟩ := k.ex
  obtain ⟨r', ho', hf'⟩ := k'.ex
  exact PE.imp (pe_chain ho ho' ha hb hc hm) fun _ _ _ h => chain_tI hf hf' h
theorem t_chain {op op' : CmpOp} {f g : IV → IV → Sto → R3 IV} (k : CmpK X M0 op f) (k' : CmpK X M0 op' g) (ha : PE X a (tI X.K M0 da)) (hb : PE X b (tI X.K M0 db)) (hc : PE X c (tI X.K M0 dc)) (hm : lastMarks [op, op'] [b, c] = false := by with_unfolding_all rfl) :
    PT X (.Compare a [op, op'] [b, c] pos) (tIT X.K M0 (dtVal (dChain f g da db dc))) := by
  obtain ⟨r, ho, hf⟩ := k.ex
  obtain ⟨r', ho', hf'⟩ := k'.ex
  exact PT.imp (pt_chain ho ho' ha hb hc hm) fun _ _ _ h => chain_tI hf hf' (test_tT h)
theorem e_one {op : BoolOp} (ha : PE X a (tI X.K M0 da)) : PE X (.BoolOp op [a] pos) (tI X.K M0 da) := pe_one ha
theorem e_and (ha : PE X a (tI X.K M0 da)) (hb : PE X (.BoolOp .And (b :: rest) pos) (tI X.K M0 db)) : PE X (.BoolOp .And (a :: b :: rest) pos) (tI X.K M0 (dAndV da db)) := PE.imp (pe_and ha hb) fun _ _ _ h => andV_tI h
theorem e_or (ha : PE X a (tI X.K M0 da)) (hb : PE X (.BoolOp .Or (b :: rest) pos) (tI X.K M0 db)) : PE X (.BoolOp .Or (a :: b :: rest) pos) (tI X.K M0 (dOrV da db)) := PE.imp (pe_or ha hb) fun _ _ _ h => orV_tI h
theorem e_not (ha : PE X a (tI X.K M0 da)) : PE X (.UnaryOp .Not a pos) (tI X.K M0 (dNotV da)) := PE.imp (pe_not ha) fun _ _ _ h => notV_tI h
theorem e_if (ht : PT X c (tIT X.K M0 t)) (ha : PE X a (tI X.K M0 da)) (hb : PE X b (tI X.K M0 db)) : PE X (.IfExp c a b pos) (tI X.K M0 (dIf t da db)) := PE.imp (pe_ifExp ht ha hb) fun _ _ _ h => if_tI h
theorem a_nil : PA X [] (tIA X.K M0 dNil) := PA.imp pa_nil fun _ _ _ h => nil_tI h
theorem a_cons (ha : PE X e (tI X.K M0 da)) (hr : PA X es (tIA X.K M0 dr)) (hs : starEach (e :: es) X.env = (false, eval e X.env) :: starEach es X.env := by rfl) : PA X (e :: es) (tIA X.K M0 (dCons da dr)) := PA.imp (pa_cons ha hr hs) fun _ _ _ h => cons_tI h
theorem PK.imp {kws : List Keyword} {t t' : TA} (h : PK X kws t) (f : ∀ σ H Q, t' σ H Q → t σ H Q) : PK X kws t' := ⟨fun pos pins s σ H Q I q => h.run pos pins s σ H Q I (f σ H Q q)⟩
theorem k_nil : PK X [] (tIA X.K M0 dNil) := PK.imp pk_nil fun _ _ _ h => nil_tI h
theorem k_cons {nm : Option Str} {kpos : Pos} {kws : List Keyword} (ha : PE X e (tI X.K M0 da)) (hr : PK X kws (tIA X.K M0 dr)) : PK X (⟨nm, e, kpos⟩ :: kws) (tIA X.K M0 (dCons da dr)) := PK.imp (pk_cons ha hr) fun _ _ _ h => cons_tI h
theorem e_tup {q} (h : PA X es (tIA X.K M0 ds)) : PE X (.Tuple es q pos) (tI X.K M0 (dTup ds)) := PE.imp (pe_tup h) fun _ _ _ h => tup_tI h
theorem e_lst (h : PA X es (tIA X.K M0 ds)) : PE X (.List es pos) (tI X.K M0 (dLst ds)) := PE.imp (pe_lst h) fun _ _ _ h => lst_tI h
theorem e_ix (ha : PE X a (tI X.K M0 da)) (hb : PE X b (tI X.K M0 db)) (hs : PlainIx b) : PE X (.Subscript a b pos) (tI X.K M0 (dOp fIx da db)) := PE.imp (pe_ix ix_seq ha hb hs) fun _ _ _ h => op_tI ix_I h

/-! calls -/
def gP {α : Type} (a b : Nat) (perm : List Nat) (us ws : List α) : List α := if us.length = a ∧ ws.length = b then perm.filterMap fun i => (us ++ ws)[i]? else []
def dCallP (f : Fn) (a b : Nat) (perm : List Nat) (d dk : DA) : DE := fun σ S => (d σ S).bind fun vs S1 => (dk σ S1).bind fun zs S2 => f (gP a b perm vs zs) S2
theorem gP_rel {m : List Addr} {a b : Nat} {perm : List Nat} {vs zs : List IV} {ws us : List V} (r : Rvs m vs ws) (r' : Rvs m zs us) : Rvs m (gP a b perm vs zs) (gP a b perm ws us) := by
  unfold gP
  rw [← r.length, ← r'.length]
  split
  · exact perm_rel (append_rel r r') perm
  · exact .nil
theorem callP_tI {K : PySem.W.Frag} {σ : L2.St} {H : Hp} {Q : VK} {n na nb : Nat} {f : Fn} {perm : List Nat} (hn : ∀ ivs S, ivs.length ≠ n → f ivs S = .no) (h : tI K M0 (dCallP f na nb perm dr dk) σ H Q) :
    tCallK (spI K M0 n f) (gP na nb perm) E0 (tIA K M0 dr) (tIA K M0 dk) σ H Q := by
  obtain ⟨m, σi, S, hR, hs, h⟩ := h
  refine ⟨m, σi, S, hR, hs, h.bind.imp fun m1 vs S1 H1 p1 R1 h1 ws rws => ?_⟩
  refine ⟨m1, σi, S1, R1, hs.mono p1, h1.bind.imp fun m2 zs S2 H2 p2 R2 h2 us rus => ?_⟩
  have q := gP_rel (a := na) (b := nb) (perm := perm) (rws.mono p2) rus
  refine ⟨?_, m2, _, S2, R2, q, h2⟩
  rw [← q.length]
  by_cases e : (gP na nb perm vs zs).length = n
  · exact e
  · rw [hn _ S2 e] at h2; exact h2.elim
theorem kbinds {K : PySem.W.Frag} {x qual : Str} {st : Stmt} {f : Addr} {fd : FuncData} {ps ks : List Str} {na nb : Nat} {perm : List Nat} (F : Fun K x qual st f fd) (ne : ps.length ≠ 0)
    (h : ∀ (kV doc pm : Value) (an : Option Addr) (cdv ct : Value) (us ws : List Value), us.length = na → ws.length = nb →
      bindArgs (PySem.W.fnOf x qual (defArgs st) (defBody st) (defScope st) .none kV doc pm an cdv ct) ⟨us, ks.zip ws⟩ = pure (ps.zip (gP na nb perm us ws))) : KBinds K fd ps ks (gP na nb perm) (gP na nb perm) := by
  obtain ⟨oc, od, kV, doc, pm, an, cdv, ct, osl, rfl, lk, hcd⟩ := F.ex
  refine ⟨fun s us ws _ hl => ?_, fun {vs us zs ws} r q => ?_⟩
  · by_cases e : us.length = na ∧ ws.length = nb
    · exact .of_eq (h kV doc pm an cdv ct us ws e.1 e.2)
    · exact absurd (by unfold gP at hl; rw [if_neg e] at hl; exact hl.symm) ne
  · have lr : vs.length = us.length := r.length
    have lq : zs.length = ws.length := q.length
    unfold gP
    rw [lr, lq]
    split
    · have rr : Vals (vs ++ zs) (us ++ ws) := r.append q
      clear h
      induction perm with
      | nil => exact .nil
      | cons i perm ih =>
        cases e1 : (vs ++ zs)[i]? with
        | none => rw [List.filterMap_cons_none e1, List.filterMap_cons_none (rr.none_of e1)]; exact ih
        | some v =>
          obtain ⟨u, e2, rv⟩ := rr.get e1
          rw [List.filterMap_cons_some e1, List.filterMap_cons_some e2]
          exact .cons rv ih
    · exact .nil

theorem e_call {k n : Nat} {f : Addr} {fd : FuncData} {ps : List Str} {fn : Fn} (hn : ∀ ivs S, ivs.length ≠ n → fn ivs S = .no) (F : FnG X.prog X.w X.K X.mg X.base k f fd ps (spI X.K M0 n fn)) (hr : Room k X.A) (hgd : X.A.guards = some []) (hg : Gl X x)
    (hm : X.mg x = some (.ref f)) (hk : PySem.W.keepIn X.K (.ref f) = true) (hb : Binds X.K fd ps []) (ha : PA X (e :: es) (tIA X.K M0 dr)) (hdb : (x == ("__debug__" : Str)) = false := by decide)
    (he : starEach (e :: es) X.env = (false, eval e X.env) :: starEach es X.env := by rfl) (hpl : (backTo pos (starEach es X.env)).any (·.1) = false := by rfl) : PE X (.Call (.Name x p) (e :: es) [] pos) (tI X.K M0 (dCall fn dr)) :=
  PE.imp (g_call F hr hgd hg hm hk hb ha hdb he hpl) fun _ _ _ h => call_tI hn h
theorem e_call0 {k n : Nat} {f : Addr} {fd : FuncData} {ps : List Str} {fn : Fn} (hn : ∀ ivs S, ivs.length ≠ n → fn ivs S = .no) (F : FnG X.prog X.w X.K X.mg X.base k f fd ps (spI X.K M0 n fn)) (hr : Room k X.A) (hgd : X.A.guards = some []) (hg : Gl X x)
    (hm : X.mg x = some (.ref f)) (hk : PySem.W.keepIn X.K (.ref f) = true) (hb : Binds X.K fd ps []) (hdb : (x == ("__debug__" : Str)) = false := by decide) : PE X (.Call (.Name x p) [] [] pos) (tI X.K M0 (dCall fn dNil)) :=
  PE.imp (g_call0 F hr hgd hg hm hk hb hdb) fun σ H Q h => by
    obtain ⟨m, σi, S, hR, hs, h⟩ := call_tI hn h
    exact h m H (List.prefix_refl _) hR [] .nil
theorem e_callK {k n na nb : Nat} {f : Addr} {fd : FuncData} {ps ks : List Str} {perm : List Nat} {kws : List Keyword} {fn : Fn} (hn : ∀ ivs S, ivs.length ≠ n → fn ivs S = .no) (F : FnG X.prog X.w X.K X.mg X.base k f fd ps (spI X.K M0 n fn)) (hr : Room k X.A) (hgd : X.A.guards = some [])
    (hg : Gl X x) (hm : X.mg x = some (.ref f)) (hk : PySem.W.keepIn X.K (.ref f) = true) (hb : KBinds X.K fd ps ks (gP na nb perm) (gP na nb perm)) (ha : PA X (e :: es) (tIA X.K M0 dr)) (hkw : PK X kws (tIA X.K M0 dk))
    (hall : (backToKw pos (keywordEach kws X.env)).all (·.1.isSome) = true := by rfl) (hks : (backToKw pos (keywordEach kws X.env)).filterMap (·.1) = ks := by rfl) (hdb : (x == ("__debug__" : Str)) = false := by decide)
    (he : starEach (e :: es) X.env = (false, eval e X.env) :: starEach es X.env := by rfl) (hpl : ((backTo pos (starEach (e :: es) X.env)).any (·.1) || (backToKw pos (keywordEach kws X.env)).any (·.1.isNone)) = false := by rfl) :
    PE X (.Call (.Name x p) (e :: es) kws pos) (tI X.K M0 (dCallP fn na nb perm dr dk)) :=
  PE.imp (g_callK F hr hgd hg hm hk hb ha hkw hall hks hdb he hpl) fun _ _ _ h => callP_tI hn h
theorem e_callK0 {k n nb : Nat} {f : Addr} {fd : FuncData} {ps ks : List Str} {perm : List Nat} {kws : List Keyword} {fn : Fn} (hn : ∀ ivs S, ivs.length ≠ n → fn ivs S = .no) (F : FnG X.prog X.w X.K X.mg X.base k f fd ps (spI X.K M0 n fn)) (hr : Room k X.A) (hgd : X.A.guards = some [])
    (hg : Gl X x) (hm : X.mg x = some (.ref f)) (hk : PySem.W.keepIn X.K (.ref f) = true) (hb : KBinds X.K fd ps ks (gP 0 nb perm) (gP 0 nb perm)) (hkw : PK X kws (tIA X.K M0 dk))
    (hall : (backToKw pos (keywordEach kws X.env)).all (·.1.isSome) = true := by rfl) (hks : (backToKw pos (keywordEach kws X.env)).filterMap (·.1) = ks := by rfl) (hdb : (x == ("__debug__" : Str)) = false := by decide)
    (hpl : ((backTo pos (starEach [] X.env)).any (·.1) || (backToKw pos (keywordEach kws X.env)).any (·.1.isNone)) = false := by rfl) :
    PE X (.Call (.Name x p) [] kws pos) (tI X.K M0 (dCallP fn 0 nb perm dNil dk)) :=
  PE.imp (g_callK0 F hr hgd hg hm hk hb hkw hall hks hdb hpl) fun σ H Q h => by
    obtain ⟨m, σi, S, hR, hs, h⟩ := callP_tI hn h
    exact h m H (List.prefix_refl _) hR [] .nil
theorem e_blt {id : String} {r : List V → Hp → VK → Prop} {f : Fn} (hc : CallR X (.builtin id) r) (hf : CallI X.K M0 r f) (hg : Gl X x) (hm : X.mg x = none) (hv : bootBuiltins x = some (.builtin id)) (ha : PA X (e :: es) (tIA X.K M0 dr)) (hn : x ≠ "__name__" := by decide) (hdb : (x == ("__debug__" : Str)) = false := by decide)
    (he : starEach (e :: es) X.env = (false, eval e X.env) :: starEach es X.env := by rfl) (hpl : (backTo pos (starEach es X.env)).any (·.1) = false := by rfl) : PE X (.Call (.Name x p) (e :: es) [] pos) (tI X.K M0 (dCall f dr)) :=
  PE.imp (pe_callB hc hg hm hv ha hn hdb he hpl) fun _ _ _ h => callB_tI hf h
theorem e_bty {T : String} {r : List V → Hp → VK → Prop} {f : Fn} (hc : CallR X (.type T) r) (hf : CallI X.K M0 r f) (hg : Gl X x) (hm : X.mg x = none) (hv : bootBuiltins x = some (.type T)) (ha : PA X (e :: es) (tIA X.K M0 dr)) (hn : x ≠ "__name__" := by decide) (hdb : (x == ("__debug__" : Str)) = false := by decide)
    (he : starEach (e :: es) X.env = (false, eval e X.env) :: starEach es X.env := by rfl) (hpl : (backTo pos (starEach es X.env)).any (·.1) = false := by rfl) : PE X (.Call (.Name x p) (e :: es) [] pos) (tI X.K M0 (dCall f dr)) :=
  PE.imp (pe_callTy hc hg hm hv ha hn hdb he hpl) fun _ _ _ h => callB_tI hf h
theorem e_is1 {tn : Tn} {y : Str} {py : Pos} (hg : Gl X "isinstance") (hm : X.mg "isinstance" = none) (hgy : Gl X y) (hmy : X.mg y = none) (hvy : bootBuiltins y = some (.type tn.name)) (ha : PE X a (tI X.K M0 da)) (hy1 : y ≠ "__name__" := by decide) (hy2 : (y == ("__debug__" : Str)) = false := by decide)
    (hv : bootBuiltins "isinstance" = some (.builtin "isinstance") := by decide +kernel) (h1 : starEach [a, .Name y py] X.env = (false, eval a X.env) :: starEach [.Name y py] X.env := by rfl) :
    PE X (.Call (.Name "isinstance" p) [a, .Name y py] [] pos) (tI X.K M0 (dIs1 da tn)) :=
  PE.imp (pe_callB call_isi hg hm hv (pa_cons ha (pa_cons (pe_bltn hgy hmy hvy (v := .ty tn.name) rfl hy1 hy2) pa_nil) h1) (by decide) (by decide) h1 (by rfl)) fun _ _ _ h => is1_tI h
theorem e_is2 {tn un : Tn} {y z : Str} {py pz pt : Pos} {q : Nat} (hg : Gl X "isinstance") (hm : X.mg "isinstance" = none) (hgy : Gl X y) (hmy : X.mg y = none) (hvy : bootBuiltins y = some (.type tn.name)) (hgz : Gl X z) (hmz : X.mg z = none) (hvz : bootBuiltins z = some (.type un.name))
    (ha : PE X a (tI X.K M0 da)) (hy1 : y ≠ "__name__" := by decide) (hy2 : (y == ("__debug__" : Str)) = false := by decide) (hz1 : z ≠ "__name__" := by decide) (hz2 : (z == ("__debug__" : Str)) = false := by decide)
    (hv : bootBuiltins "isinstance" = some (.builtin "isinstance") := by decide +kernel) (h1 : starEach [a, .Tuple [.Name y py, .Name z pz] q pt] X.env = (false, eval a X.env) :: starEach [.Tuple [.Name y py, .Name z pz] q pt] X.env := by rfl) :
    PE X (.Call (.Name "isinstance" p) [a, .Tuple [.Name y py, .Name z pz] q pt] [] pos) (tI X.K M0 (dIs2 da tn un)) :=
  PE.imp (pe_callB call_isiT hg hm hv (pa_cons ha (pa_cons (pe_tup (pa_cons (pe_bltn hgy hmy hvy (v := .ty tn.name) rfl hy1 hy2) (pa_cons (pe_bltn hgz hmz hvz (v := .ty un.name) rfl hz1 hz2) pa_nil))) pa_nil) h1) (by decide) (by decide) h1 (by rfl)) fun _ _ _ h => is2_tI h
theorem e_append (ho : PE X o (tI X.K M0 da)) (ha : PA X [e] (tIA X.K M0 dr)) {name : Str} (hname : name = "append" := by rfl) (hbase : attributeBase o name X.env (eval o X.env) = eval o X.env := by rfl)
    (hfew : ((backTo pos (starEach [e] X.env)).all (fun x => !x.1) && (backToKw pos (keywordEach [] X.env)).all (fun x => x.1.isSome) && decide ([e].length + ([] : List Keyword).length + (if ([] : List Keyword).isEmpty then 0 else 1) < 30)) = true := by rfl)
    (hline : (apos.endLine == pos.line) = true := by rfl) (hs : starEach [e] X.env = (false, eval e X.env) :: starEach [] X.env := by rfl) : PE X (.Call (.Attribute o name apos) [e] [] pos) (tI X.K M0 (dBM mAppend da dr)) := by
  subst hname
  exact PE.imp (pe_bm PySem.F.plainAttrs_list PySem.F.slot_list_append PySem.F.type_list_append mt_append ho ha hbase hfew hline hs (by rfl)) fun _ _ _ h => bm_tI append_I h
theorem e_extend (ho : PE X o (tI X.K M0 da)) (ha : PA X [e] (tIA X.K M0 dr)) {name : Str} (hname : name = "extend" := by rfl) (hbase : attributeBase o name X.env (eval o X.env) = eval o X.env := by rfl)
    (hfew : ((backTo pos (starEach [e] X.env)).all (fun x => !x.1) && (backToKw pos (keywordEach [] X.env)).all (fun x => x.1.isSome) && decide ([e].length + ([] : List Keyword).length + (if ([] : List Keyword).isEmpty then 0 else 1) < 30)) = true := by rfl)
    (hline : (apos.endLine == pos.line) = true := by rfl) (hs : starEach [e] X.env = (false, eval e X.env) :: starEach [] X.env := by rfl) : PE X (.Call (.Attribute o name apos) [e] [] pos) (tI X.K M0 (dBM mExtend da dr)) := by
  subst hname
  exact PE.imp (pe_bm PySem.F.plainAttrs_list PySem.F.slot_list_extend PySem.F.type_list_extend mt_extend ho ha hbase hfew hline hs (by rfl)) fun _ _ _ h => bm_tI extend_I h
theorem e_index (ho : PE X o (tI X.K M0 da)) (ha : PA X [e] (tIA X.K M0 dr)) {name : Str} (hname : name = "index" := by rfl) (hbase : attributeBase o name X.env (eval o X.env) = eval o X.env := by rfl)
    (hfew : ((backTo pos (starEach [e] X.env)).all (fun x => !x.1) && (backToKw pos (keywordEach [] X.env)).all (fun x => x.1.isSome) && decide ([e].length + ([] : List Keyword).length + (if ([] : List Keyword).isEmpty then 0 else 1) < 30)) = true := by rfl)
    (hline : (apos.endLine == pos.line) = true := by rfl) (hs : starEach [e] X.env = (false, eval e X.env) :: starEach [] X.env := by rfl) : PE X (.Call (.Attribute o name apos) [e] [] pos) (tI X.K M0 (dBM mIndex da dr)) := by
  subst hname
  exact PE.imp (pe_bm PySem.F.plainAttrs_list PySem.F.slot_list_index PySem.F.type_list_index mt_index ho ha hbase hfew hline hs (by rfl)) fun _ _ _ h => bm_tI index_I h

/-! tests -/
theorem t_val (ha : PE X a (tI X.K M0 da)) (he : ∀ whole, isTrue a X.env whole = (do let v ← whole; standAt a.pos; holding [v] (truthy v)) := by intro _; rfl) : PT X a (tIT X.K M0 (dtTru da)) := PT.imp (pt_truth ha he) fun _ _ _ h => tru_tT h
theorem t_not (ha : PT X a (tIT X.K M0 t)) : PT X (.UnaryOp .Not a pos) (tIT X.K M0 (dtNot t)) := PT.imp (pt_not ha) fun _ _ _ h => not_tT h
theorem PW.imp {e : Expr} {t t' : TT} (h : PW X e t) (f : ∀ σ H Q, t' σ H Q → t σ H Q) : PW X e t' := ⟨fun w pins s σ H Q I q => h.run w pins s σ H Q I (f σ H Q q)⟩
theorem w_and1 (ha : PT X a (tIT X.K M0 t)) : PW X (.BoolOp .And [a] pos) (tIT X.K M0 t) := pw_and1 ha
theorem w_or1 (ha : PT X a (tIT X.K M0 t)) : PW X (.BoolOp .Or [a] pos) (tIT X.K M0 t) := pw_or1 ha
theorem w_and (ha : PT X a (tIT X.K M0 t)) (hb : PW X (.BoolOp .And (b :: rest) pos) (tIT X.K M0 u)) : PW X (.BoolOp .And (a :: b :: rest) pos) (tIT X.K M0 (dtAnd t u)) := PW.imp (pw_and ha hb) fun _ _ _ h => and_tT h
theorem w_or (ha : PT X a (tIT X.K M0 t)) (hb : PW X (.BoolOp .Or (b :: rest) pos) (tIT X.K M0 u)) : PW X (.BoolOp .Or (a :: b :: rest) pos) (tIT X.K M0 (dtOr t u)) := PW.imp (pw_or ha hb) fun _ _ _ h => or_tT h
theorem t_w (h : PW X a (tIT X.K M0 t)) : PT X a (tIT X.K M0 t) := h.pt
theorem ts_nil : PTs X [] (tIT X.K M0 dtYes) := ⟨fun pins s σ H Q I h => pts_nil.run pins s σ H Q I (yes_tT h)⟩
theorem ts_one (h : PT X c (tIT X.K M0 t)) : PTs X [c] (tIT X.K M0 t) := pts_one h
end

section
variable {X : Cx} {M0 : List Addr} {a b c e o iter tg elt : Expr} {es : List Expr} {da db d te : DE} {dr : DA} {t tt : DT} {di : DI} {pos p : Pos} {x y : Str} {st : Stmt} {rest body body2 : List Stmt} {s1 s2 : DS} {T : TgI} {i : Nat}
/-! what is walked -/
theorem i_seq (h : PE X e (tI X.K M0 d)) : PI X tg e (tII X.K M0 (diSeq d)) := PI.imp (PI.or (pi_list h) (pi_tup h)) fun _ _ _ h => seq_tII h
theorem i_rng1 (hg : Gl X "range") (hm : X.mg "range" = none) (ha : PA X [a] (tIA X.K M0 dr)) (hs : starEach [a] X.env = [(false, eval a X.env)] := by rfl) : PI X tg (.Call (.Name "range" p) [a] [] pos) (tII X.K M0 (diRng1 dr)) := PI.imp (pi_range1 hg hm ha hs) fun _ _ _ h => rng1_tII h
theorem i_rng2 (hg : Gl X "range") (hm : X.mg "range" = none) (ha : PA X [a, b] (tIA X.K M0 dr)) (hs : starEach [a, b] X.env = [(false, eval a X.env), (false, eval b X.env)] := by rfl) (hs2 : starEach [b] X.env = [(false, eval b X.env)] := by rfl) : PI X tg (.Call (.Name "range" p) [a, b] [] pos) (tII X.K M0 (diRng2 dr)) :=
  PI.imp (pi_range2 hg hm ha hs hs2) fun _ _ _ h => rng2_tII h
theorem i_zip {elts : List Expr} {kk : Nat} {tpos : Pos} (hg : Gl X "zip") (hm : X.mg "zip" = none) (ha : PA X [a, b] (tIA X.K M0 dr)) (hs : starEach [a, b] X.env = (false, eval a X.env) :: starEach [b] X.env := by rfl) (hpl : (backTo pos (starEach [b] X.env)).any (·.1) = false := by rfl) :
    PI X (.Tuple elts kk tpos) (.Call (.Name "zip" p) [a, b] [] pos) (tII X.K M0 (diZip dr)) := PI.imp (RZ.pi_zipA hg hm ha hs hpl) fun _ _ _ h => zip_tII h
theorem i_enm {elts : List Expr} {kk : Nat} {tpos : Pos} (hg : Gl X "enumerate") (hm : X.mg "enumerate" = none) (ha : PA X [a] (tIA X.K M0 dr)) (hs : starEach [a] X.env = [(false, eval a X.env)] := by rfl) :
    PI X (.Tuple elts kk tpos) (.Call (.Name "enumerate" p) [a] [] pos) (tII X.K M0 (diEnm dr)) := PI.imp (pi_enum hg hm ha hs) fun _ _ _ h => enm_tII h
/-! comprehensions -/
theorem e_lc {ifs : List Expr} {scope : Scope} {own : List (Str × Nat)} (hc : X.calm = true) (hN : X.N.Nodup) (hi : PI X tg iter (tII X.K M0 di)) (ok : BlkOk X.N X.env.scope scope own) (hv : ∀ j ∈ T.slots, j ∈ own.map (·.2))
    (hg : ∀ (s : Shared) (H : Hp) (C : Addr) (cl : List (Str × Addr)) (fp : List Addr), PG (X.blk s H scope (compEnvC scope cl C X.env) fp) tg (tgT X.K T)) (ht : ∀ (s : Shared) (H : Hp) (C : Addr) (cl : List (Str × Addr)) (fp : List Addr), PTs (X.blk s H scope (compEnvC scope cl C X.env) fp) ifs (tIT X.K M0 tt))
    (he : ∀ (s : Shared) (H : Hp) (C : Addr) (cl : List (Str × Addr)) (fp : List Addr), PE (X.blk s H scope (compEnvC scope cl C X.env) fp) elt (tI X.K M0 te)) (hs : ∀ x, foldedSetIterable iter X.env x = pure x := by intro _; rfl) :
    PE X (.ListComp elt [⟨tg, iter, ifs, 0⟩] scope pos) (tI X.K M0 (dLc di T tt te (own.map (·.2)))) := PE.imp (pe_lc hc hN hi ok hg ht he hs) fun _ _ _ h => lc_tI hv h
theorem s_setLc {py spos : Pos} {ifs : List Expr} {scope : Scope} {own : List (Str × Nat)} (hc : X.calm = true) (hN : X.N.Nodup) (hy : X.N[i]? = some y) (hyl : X.env.scope.names.lookup y = some .local)
    (hsw : swapsWith (.ListComp elt [⟨tg, iter, ifs, 0⟩] scope pos) (some (.Name y py)) spos.line X.env = pure true) (hi : PI X tg iter (tII X.K M0 di)) (ok : BlkOk X.N X.env.scope scope own) (hv : ∀ j ∈ T.slots, j ∈ own.map (·.2))
    (hg : ∀ (s : Shared) (H : Hp) (C : Addr) (cl : List (Str × Addr)) (fp : List Addr), PG (X.blk s H scope (compEnvC scope cl C X.env) fp) tg (tgT X.K T)) (ht : ∀ (s : Shared) (H : Hp) (C : Addr) (cl : List (Str × Addr)) (fp : List Addr), PTs (X.blk s H scope (compEnvC scope cl C X.env) fp) ifs (tIT X.K M0 tt))
    (he : ∀ (s : Shared) (H : Hp) (C : Addr) (cl : List (Str × Addr)) (fp : List Addr), PE (X.blk s H scope (compEnvC scope cl C X.env) fp) elt (tI X.K M0 te)) (hs : ∀ x, foldedSetIterable iter X.env x = pure x := by intro _; rfl) :
    PS X (.Assign [.Name y py] (.ListComp elt [⟨tg, iter, ifs, 0⟩] scope pos) spos) (tIS X.K M0 (dAsg (dLc di T tt te (own.map (·.2))) (.nm i))) :=
  PS.imp (ps_setLc hc hN hy hyl hsw hi ok hg ht he hs) fun D σ H h => lc_tI hv (asg_tS (tg := .nm i) h)
/-! targets -/
theorem g_nm (i : Nat) (hN : X.N.Nodup) (hi : X.N[i]? = some x) (hx : Loc X.env.scope x) (hf : X.fn x = true ∨ X.env.scope.names.lookup x = some .local := by first | exact .inl rfl | exact .inr rfl | assumption) : PG X (.Name x pos) (tgT X.K (.nm i)) := pg_name hN hi hx hf
theorem g_tp {js : List Nat} {k : Nat} (hc : X.calm = true) (h : PGs X es (gNames js)) (hn : (assignEach es X.env).length = js.length := by rfl) (hst : (assignEach es X.env).findIdx? (·.1) = none := by rfl) : PG X (.Tuple es k pos) (tgT X.K (.tp js)) := pg_tup hc h hn hst
/-! statements -/
theorem s_set (i : Nat) {py : Pos} (hN : X.N.Nodup) (hi : X.N[i]? = some x) (hx : Loc X.env.scope x) (he : PE X e (tI X.K M0 d)) (hs : swapsWith e (some (.Name x py)) pos.line X.env = pure false := by rfl)
    (hf : X.fn x = true ∨ X.env.scope.names.lookup x = some .local := by first | exact .inl rfl | exact .inr rfl | assumption) : PS X (.Assign [.Name x py] e pos) (tIS X.K M0 (dAsg d (.nm i))) := PS.imp (ps_set hN hi hx he hs hf) fun _ _ _ h => asg_tS (tg := .nm i) h
theorem s_asg (he : PE X e (tI X.K M0 d)) (hg : PG X tg (tgT X.K T)) (hs : swapsWithSole [tg] e pos.line X.env = pure false := by rfl) (hw : swappedStores [tg] e X.env = pure none := by rfl) (h1 : (assignEach [tg] X.env).map (·.2) = [assign tg X.env] := by rfl) :
    PS X (.Assign [tg] e pos) (tIS X.K M0 (dAsg d T)) := PS.imp (ps_asg he hg hs hw h1) fun _ _ _ h => asg_tS h
theorem s_asgG {g : DG} (he : PE X e (tI X.K M0 d)) (hg : PG X tg (tIG X.K M0 g)) (hs : swapsWithSole [tg] e pos.line X.env = pure false := by rfl) (hw : swappedStores [tg] e X.env = pure none := by rfl) (h1 : (assignEach [tg] X.env).map (·.2) = [assign tg X.env] := by rfl) :
    PS X (.Assign [tg] e pos) (tIS X.K M0 (dAsgG d g)) := PS.imp (ps_asg he hg hs hw h1) fun _ _ _ h => asgG_tS h
theorem s_par (i j : Nat) {px py pt : Pos} {kt k2 pt2} (hc : X.calm = true) (hN : X.N.Nodup) (hi : X.N[i]? = some x) (hj : X.N[j]? = some y) (hij : i ≠ j) (hx : X.env.scope.names.lookup x = some .local) (hy : X.env.scope.names.lookup y = some .local) (ha : PA X [a, b] (tIA X.K M0 dr))
    (hw : swappedStores [.Tuple [.Name x px, .Name y py] kt pt] (.Tuple [a, b] k2 pt2) X.env = pure (some [x, y]) := by rfl) (hs : swapsWithSole [.Tuple [.Name x px, .Name y py] kt pt] (.Tuple [a, b] k2 pt2) pos.line X.env = pure false := by rfl) :
    PS X (.Assign [.Tuple [.Name x px, .Name y py] kt pt] (.Tuple [a, b] k2 pt2) pos) (tIS X.K M0 (dPar i j dr)) := PS.imp (ps_par hc hN hi hj hij hx hy ha hw hs) fun _ _ _ h => par_tS h
theorem s_ret (he : PE X e (tI X.K M0 d)) : PS X (.Return (some e) pos) (tIS X.K M0 (dRet d)) := PS.imp (ps_ret he) fun _ _ _ h => ret_tS h
theorem s_expr (he : PE X e (tI X.K M0 d)) (hs : swapsWith e none pos.line X.env = pure false := by rfl) : PS X (.Expr e pos) (tIS X.K M0 (dExpr d)) := PS.imp (ps_expr he hs) fun _ _ _ h => expr_tS h
theorem s_if (hc : PT X c (tIT X.K M0 t)) (ha : PSs X body (tIS X.K M0 s1)) (hb : PSs X body2 (tIS X.K M0 s2)) : PS X (.If c body body2 pos) (tIS X.K M0 (dIfS t s1 s2)) := PS.imp (ps_if hc ha hb) fun _ _ _ h => if_tS h
theorem s_never : PS X st (tIS X.K M0 dNever) := PS.imp ps_never fun _ _ _ h => never_tS h
theorem s_pass : PS X (.Pass pos) (tIS X.K M0 dNext) := PS.imp ps_pass fun _ _ _ h => next_tS h
theorem s_break : PS X (.Break pos) (tIS X.K M0 dBreak) := PS.imp ps_break fun _ _ _ h => break_tS h
theorem s_cont : PS X (.Continue pos) (tIS X.K M0 dCont) := PS.imp ps_continue fun _ _ _ h => cont_tS h
theorem s_while (n : Nat) (hp : PassesOwn (model X.prog X.w) X.A X.env X.xe) (hc : PT X c (tIT X.K M0 t)) (hb : PSs X body (tIS X.K M0 s1)) : PS X (.While c body [] pos) (tIS X.K M0 (whileI t s1 n)) := PS.imp (ps_while hp hc hb) fun _ _ _ h => while_tS h
theorem s_for (hp : PassesOwn (model X.prog X.w) X.A X.env X.xe) (hc : X.calm = true) (hi : PI X tg iter (tII X.K M0 di)) (hg : PG X tg (tgT X.K T)) (hb : PSs X body (tIS X.K M0 s1)) (hs : ∀ x, foldedSetIterable iter X.env x = pure x := by intro _; rfl) :
    PS X (.For tg iter body [] pos) (tIS X.K M0 (dFor di T s1)) := PS.imp (ps_for hp hc hi hg hb hs) fun _ _ _ h => for_tS h
theorem s_aug (i : Nat) {op : Operator} {tp : TIp} {f : IV → IV → Sto → R3 IV} {py : Pos} (hN : X.N.Nodup) (hi : X.N[i]? = some x) (hx : Loc X.env.scope x) (he : PE X e (tI X.K M0 d)) (ho : PIp X op tp) (hf' : OpI X.K M0 tp f)
    (hf : X.fn x = true ∨ X.env.scope.names.lookup x = some .local := by first | exact .inl rfl | exact .inr rfl | assumption) : PS X (.AugAssign (.Name x py) op e pos) (tIS X.K M0 (dAug i f d)) := PS.imp (ps_aug hN hi hx he ho hf) fun _ _ _ h => aug_tS hf' h
theorem ipI_I {K : PySem.W.Frag} {M0 : List Addr} {g : Int → Int → Int} : OpI K M0 (ipI g) (fInt fun i j => .int (g i j)) := by
  intro m S H x y vx vy Q hR rx ry h
  match vx, vy, rx, ry, h with
  | .int i, .int j, rfl, rfl, h => exact ⟨i, j, rfl, rfl, hR.here h _ rfl⟩
theorem s_augAdd (i : Nat) {py : Pos} (hN : X.N.Nodup) (hi : X.N[i]? = some x) (hx : Loc X.env.scope x) (he : PE X e (tI X.K M0 d)) (hf : X.fn x = true ∨ X.env.scope.names.lookup x = some .local := by first | exact .inl rfl | exact .inr rfl | assumption) :
    PS X (.AugAssign (.Name x py) .Add e pos) (tIS X.K M0 (dAug i (fInt fun i j => .int (i + j)) d)) := s_aug i hN hi hx he ip_add ipI_I hf
theorem ss_nil : PSs X [] (tIS X.K M0 dNext) := PSs.imp pss_nil fun _ _ _ h => next_tS h
theorem ss_cons (h1 : PS X st (tIS X.K M0 s1)) (h2 : PSs X rest (tIS X.K M0 s2)) : PSs X (st :: rest) (tIS X.K M0 (dSeq s1 s2)) := PSs.imp (pss_cons h1 h2) fun _ _ _ h => seq_tS h
theorem ss_one (h1 : PS X st (tIS X.K M0 s1)) : PSs X [st] (tIS X.K M0 s1) := pss_one h1
end
end RI
namespace RI
open PySem PySem.Spec PyProof.Rows L2
section
variable {X : Cx} {M0 : List Addr} {a b o i : Expr} {da db : DE} {ga gb : DG} {pos : Pos} {x : Str}
theorem gg_nm (j : Nat) (hN : X.N.Nodup) (hi : X.N[j]? = some x) (hx : Loc X.env.scope x) (hf : X.fn x = true ∨ X.env.scope.names.lookup x = some .local := by first | exact .inl rfl | exact .inr rfl | assumption) : PG X (.Name x pos) (tIG X.K M0 (gdName j)) := PG.imp (pg_name hN hi hx hf) fun _ _ _ _ h => name_tG h
theorem gg_pair {k : Nat} (hc : X.calm = true) (h1 : PG X a (tIG X.K M0 ga)) (h2 : PG X b (tIG X.K M0 gb)) (hs1 : (assignEach [a, b] X.env).map (·.2) = assign a X.env :: (assignEach [b] X.env).map (·.2) := by rfl) (hs2 : (assignEach [b] X.env).map (·.2) = assign b X.env :: (assignEach [] X.env).map (·.2) := by rfl)
    (hn : (assignEach [a, b] X.env).length = 2 := by rfl) (hst : (assignEach [a, b] X.env).findIdx? (·.1) = none := by rfl) : PG X (.Tuple [a, b] k pos) (tIG X.K M0 (gdPair ga gb)) := PG.imp (pg_tup hc (pgs_cons h1 (pgs_cons h2 pgs_nil hs2) hs1) hn hst) fun _ _ _ _ h => pair_tG h
theorem gg_sub (ho : PE X o (tI X.K M0 da)) (hi : PE X i (tI X.K M0 db)) (ha : ∀ v, assign (.Subscript o i pos) X.env v = (do let ov ← holding [v] (eval o X.env); let iv ← holding [v, ov] (eval i X.env); standAt pos; holding [v, ov, iv] (setItem ov iv v); release [v, ov, iv] []) := by intro _; rfl) :
    PG X (.Subscript o i pos) (tIG X.K M0 (gdSub da db)) := PG.imp (pg_sub ho hi set_list ha) fun _ _ _ _ h => sub_tG h
end
end RI
set_option maxRecDepth 100000
/-! RI10: steps of the Lean functions, for rewriting -/
namespace RI
open PySem PySem.Spec PyProof.Rows L2
theorem bind_ok {α β : Type} {a : α} {S : Sto} {f : α → Sto → R3 β} : (R3.ok a S).bind f = f a S := rfl
theorem getM_of {S : Sto} {l : Nat} {xs : List IV} (h : S.get l = some (.lst xs)) : getM S l = some xs := by unfold getM; rw [h]
theorem getL_of {S : Sto} {l : Nat} {xs : List IV} (h : S.get l = some (.lst xs)) : getL S l = some xs := by unfold getL; rw [h]
theorem getS_of {S : Sto} {l : Nat} {xs : List IV} (h : S.get l = some (.lst xs)) : getS S l = some xs := by unfold getS; rw [h]
theorem getT_of {S : Sto} {l : Nat} {xs : List IV} (h : S.get l = some (.tup xs)) : getT S l = some xs := by unfold getT; rw [h]
section
variable {i j : Int} {S : Sto} {σ : Sl} {da db dc d : DE} {dr : DA} {f : Fn} {v w : IV}
theorem fAdd_ii : fAdd (.int i) (.int j) S = .ok (.int (i + j)) S := rfl
theorem fSub_ii : fSub (.int i) (.int j) S = .ok (.int (i - j)) S := rfl
theorem cmul_r (h : -(2 ^ 64) < j ∧ j < 2 ^ 64) : CMul i j := .inr h
theorem cmul_l (h : -(2 ^ 64) < i ∧ i < 2 ^ 64) : CMul i j := .inl h
theorem fMul_ii (h : CMul i j) : fMul (.int i) (.int j) S = .ok (.int (i * j)) S := by show (if CMul i j then R3.ok (IV.int (i * j)) S else .no) = _; rw [if_pos h]
theorem fMod_ii (h : 0 < j) : fMod (.int i) (.int j) S = .ok (.int (i % j)) S := by show (if 0 < j then R3.ok (IV.int (i % j)) S else .no) = _; rw [if_pos h]
theorem fDiv_ii (h : CDiv i j) : fDiv (.int i) (.int j) S = .ok (.int (i / j)) S := by show (if CDiv i j then R3.ok (IV.int (i / j)) S else .no) = _; rw [if_pos h]
theorem fPow_ii (h : CPow i j) : fPow (.int i) (.int j) S = .ok (.int (i ^ j.toNat)) S := by show (if CPow i j then R3.ok (IV.int (i ^ j.toNat)) S else .no) = _; rw [if_pos h]
theorem fLt_ii : fLt (.int i) (.int j) S = .ok (.bl (decide (i < j))) S := rfl
theorem fLe_ii : fLe (.int i) (.int j) S = .ok (.bl (decide (i ≤ j))) S := rfl
theorem fGt_ii : fGt (.int i) (.int j) S = .ok (.bl (decide (j < i))) S := rfl
theorem fGe_ii : fGe (.int i) (.int j) S = .ok (.bl (decide (j ≤ i))) S := rfl
theorem fEq_ii : fEq (.int i) (.int j) S = .ok (.bl (decide (i = j))) S := rfl
theorem fNe_ii : fNe (.int i) (.int j) S = .ok (.bl (!decide (i = j))) S := rfl
theorem fIx_at {l : Nat} {xs : List IV} (h : getS S l = some xs) (e : atI xs i = some v) : fIx (.ref l) (.int i) S = .ok v S := by
  unfold fIx
  simp only [h, e]
theorem fInt1_i : fInt1 [.int i] S = .ok (.int i) S := rfl
theorem fDivmod_ii (h : CDiv i j) : fDivmod [.int i, .int j] S = .ok (.ref S.n) (S.put (.tup [.int (i / j), .int (i % j)])) := by
  unfold fDivmod
  simp only [if_pos h]
theorem dOp_eq {g : IV → IV → Sto → R3 IV} : dOp g da db σ S = (da σ S).bind fun x S1 => (db σ S1).bind fun y S2 => g x y S2 := rfl
theorem dCons_eq : dCons da dr σ S = (da σ S).bind fun x S1 => (dr σ S1).bind fun xs S2 => .ok (x :: xs) S2 := rfl
theorem dNil_eq : dNil σ S = .ok [] S := rfl
theorem dC_eq : dC v σ S = .ok v S := rfl
theorem dCall_eq : dCall f dr σ S = (dr σ S).bind f := rfl
theorem dVar_0 {σ : List (Option IV)} : dVar 0 (some v :: σ) S = .ok v S := rfl
theorem dVar_1 {x : Option IV} {σ : List (Option IV)} : dVar 1 (x :: some v :: σ) S = .ok v S := rfl
theorem dVar_2 {x y : Option IV} {σ : List (Option IV)} : dVar 2 (x :: y :: some v :: σ) S = .ok v S := rfl
theorem dVar_3 {x y z : Option IV} {σ : List (Option IV)} : dVar 3 (x :: y :: z :: some v :: σ) S = .ok v S := rfl
theorem dVar_4 {x y z u : Option IV} {σ : List (Option IV)} : dVar 4 (x :: y :: z :: u :: some v :: σ) S = .ok v S := rfl
theorem dFun_rt {np n : Nat} {ds : DS} {ivs : List IV} {S' : Sto} (hl : ivs.length = np) (h : ds (ivs.map some ++ List.replicate (n - np) none) S = .rt v S') : dFun np n ds ivs S = .ok v S' := by
  unfold dFun
  rw [if_pos hl, h]
theorem dtVal_eq : dtVal d σ S = (d σ S).bind fun x S1 => match x with | .bl b => .ok b S1 | _ => .no := rfl
end

/-! ### the numbers that a law draws: a list of two ints, the first one's digits as long as it is not 0 -/
structure Pot (S : Sto) (p : Nat) (A B : Int) : Prop where
  at_ : S.get p = some (.lst [.int A, .int B])
  ge : 8 ≤ p
  wf : S.os.length + 8 = S.n
  a0 : 0 ≤ A
  b0 : 0 ≤ B
  b1 : B < 2147483648
theorem Pot.lt {S : Sto} {p : Nat} {A B : Int} (h : Pot S p A B) : p < S.n := get_lt (by have := h.wf; omega) h.at_
theorem Pot.put {S : Sto} {p : Nat} {A B : Int} (h : Pot S p A B) (o : IO) : Pot (S.put o) p A B :=
  ⟨by rw [get_put_old h.lt]; exact h.at_, h.ge, by have := h.wf; simp only [Sto.put, List.length_cons]; omega, h.a0, h.b0, h.b1⟩
theorem Pot.set {S : Sto} {p : Nat} {A B A' B' : Int} (h : Pot S p A B) (a0 : 0 ≤ A') (b0 : 0 ≤ B') (b1 : B' < 2147483648) : Pot (S.set p (.lst [.int A', .int B'])) p A' B' :=
  ⟨get_set_self h.wf h.ge h.at_, h.ge, by show (S.os.set _ _).length + 8 = S.n; rw [List.length_set]; exact h.wf, a0, b0, b1⟩
/-- what a draw leaves as it was -/
structure Kept (S S' : Sto) (p : Nat) : Prop where
  st : S'.st = S.st
  le : S.n ≤ S'.n
  old : ∀ l, l < S.n → l ≠ p → S'.get l = S.get l
theorem Kept.refl (S : Sto) (p : Nat) : Kept S S p := ⟨rfl, Nat.le_refl _, fun _ _ _ => rfl⟩
theorem Kept.trans {S S1 S2 : Sto} {p : Nat} (a : Kept S S1 p) (b : Kept S1 S2 p) : Kept S S2 p :=
  ⟨b.st.trans a.st, Nat.le_trans a.le b.le, fun l h n => (b.old l (Nat.lt_of_lt_of_le h a.le) n).trans (a.old l h n)⟩
theorem Kept.put {S : Sto} {p : Nat} (o : IO) : Kept S (S.put o) p := ⟨rfl, Nat.le_succ _, fun l h _ => get_put_old h⟩
theorem Kept.set {S : Sto} {p : Nat} (o : IO) (h : p < S.n) (h8 : 8 ≤ p) : Kept S (S.set p o) p := ⟨rfl, Nat.le_refl _, fun l hl n => get_set_ne h h8 n⟩
def Draws (draw : Fn) : Prop := ∀ (S : Sto) (p : Nat) (A B n : Int), Pot S p A B → 0 < n → n < 1073741824 → ∃ d A' B' S', draw [.ref p, .int n] S = .ok (.int d) S' ∧ 0 ≤ d ∧ d < n ∧ Pot S' p A' B' ∧ Kept S S' p
end RI
set_option maxRecDepth 100000
set_option maxHeartbeats 4000000
namespace RL
open PySem PySem.Spec PyProof.Rows L2 RI
def topS (i : Nat) : Stmt := PySem.Challenge.pw_restkeepers_k11_whole_rests.main.body.getD i (.Pass ⟨0, 0, 0, 0⟩)
abbrev s_fits_integer : Stmt := topS 8
abbrev N_fits_integer : List Str := ["value"]
abbrev P_fits_integer : List Str := ["value"]
theorem sc_fits_integer : FnScope N_fits_integer P_fits_integer (defScope s_fits_integer) := ⟨rfl, rfl, rfl, by decide +kernel, rfl, by decide +kernel, by decide +kernel⟩
theorem bd_fits_integer {K : PySem.W.Frag} {a : Addr} {fd : FuncData} (F : Fun K "fits_integer" "fits_integer" s_fits_integer a fd) : Binds K fd P_fits_integer [] := F.binds fun _ _ _ _ _ _ us hl => match us, hl with | [_], _ => rfl
def B_fits_integer_0 : DS := (dRet (dAndV (dIs1 (dVar 0) .int) (dNotV (dIs1 (dVar 0) .bool))))
def D_fits_integer : Fn := dFun 1 1 B_fits_integer_0
theorem no_fits_integer : ∀ ivs S, ivs.length ≠ 1 → D_fits_integer ivs S = .no := dFun_no
abbrev s_fits_prime : Stmt := topS 10
abbrev N_fits_prime : List Str := ["value"]
abbrev P_fits_prime : List Str := ["value"]
theorem sc_fits_prime : FnScope N_fits_prime P_fits_prime (defScope s_fits_prime) := ⟨rfl, rfl, rfl, by decide +kernel, rfl, by decide +kernel, by decide +kernel⟩
theorem bd_fits_prime {K : PySem.W.Frag} {a : Addr} {fd : FuncData} (F : Fun K "fits_prime" "fits_prime" s_fits_prime a fd) : Binds K fd P_fits_prime [] := F.binds fun _ _ _ _ _ _ us hl => match us, hl with | [_], _ => rfl
def B_fits_prime_0 : DS := (dRet (dAndV (dCall D_fits_integer (dCons (dVar 0) dNil)) (dOp (fIn false) (dVar 0) (dC (.ref 0)))))
def D_fits_prime : Fn := dFun 1 1 B_fits_prime_0
theorem no_fits_prime : ∀ ivs S, ivs.length ≠ 1 → D_fits_prime ivs S = .no := dFun_no
abbrev s_is_prime : Stmt := topS 16
abbrev N_is_prime : List Str := ["value"]
abbrev P_is_prime : List Str := ["value"]
theorem sc_is_prime : FnScope N_is_prime P_is_prime (defScope s_is_prime) := ⟨rfl, rfl, rfl, by decide +kernel, rfl, by decide +kernel, by decide +kernel⟩
theorem bd_is_prime {K : PySem.W.Frag} {a : Addr} {fd : FuncData} (F : Fun K "is_prime" "is_prime" s_is_prime a fd) : Binds K fd P_is_prime [] := F.binds fun _ _ _ _ _ _ us hl => match us, hl with | [_], _ => rfl
def B_is_prime_0 : DS := (dRet (dCall D_fits_prime (dCons (dVar 0) dNil)))
def D_is_prime : Fn := dFun 1 1 B_is_prime_0
theorem no_is_prime : ∀ ivs S, ivs.length ≠ 1 → D_is_prime ivs S = .no := dFun_no
abbrev s_need_prime : Stmt := topS 11
abbrev N_need_prime : List Str := ["prime"]
abbrev P_need_prime : List Str := ["prime"]
theorem sc_need_prime : FnScope N_need_prime P_need_prime (defScope s_need_prime) := ⟨rfl, rfl, rfl, by decide +kernel, rfl, by decide +kernel, by decide +kernel⟩
theorem bd_need_prime {K : PySem.W.Frag} {a : Addr} {fd : FuncData} (F : Fun K "need_prime" "need_prime" s_need_prime a fd) : Binds K fd P_need_prime [] := F.binds fun _ _ _ _ _ _ us hl => match us, hl with | [_], _ => rfl
def B_need_prime_0 : DS := (dIfS (dtNot (dtTru (dCall D_fits_prime (dCons (dVar 0) dNil)))) dNever dNext)
def D_need_prime : Fn := dFun 1 1 B_need_prime_0
theorem no_need_prime : ∀ ivs S, ivs.length ≠ 1 → D_need_prime ivs S = .no := dFun_no
abbrev s_fits_count : Stmt := topS 9
abbrev N_fits_count : List Str := ["value", "bound"]
abbrev P_fits_count : List Str := ["value", "bound"]
theorem sc_fits_count : FnScope N_fits_count P_fits_count (defScope s_fits_count) := ⟨rfl, rfl, rfl, by decide +kernel, rfl, by decide +kernel, by decide +kernel⟩
theorem bd_fits_count {K : PySem.W.Frag} {a : Addr} {fd : FuncData} (F : Fun K "fits_count" "fits_count" s_fits_count a fd) : Binds K fd P_fits_count [] := F.binds fun _ _ _ _ _ _ us hl => match us, hl with | [_, _], _ => rfl
def B_fits_count_0 : DS := (dRet (dAndV (dCall D_fits_integer (dCons (dVar 0) dNil)) (dChain fLe fLt (dC (.int 0)) (dVar 0) (dVar 1))))
def D_fits_count : Fn := dFun 2 2 B_fits_count_0
theorem no_fits_count : ∀ ivs S, ivs.length ≠ 2 → D_fits_count ivs S = .no := dFun_no
abbrev s_need_rest : Stmt := topS 12
abbrev N_need_rest : List Str := ["prime", "rest"]
abbrev P_need_rest : List Str := ["prime", "rest"]
theorem sc_need_rest : FnScope N_need_rest P_need_rest (defScope s_need_rest) := ⟨rfl, rfl, rfl, by decide +kernel, rfl, by decide +kernel, by decide +kernel⟩
theorem bd_need_rest {K : PySem.W.Frag} {a : Addr} {fd : FuncData} (F : Fun K "need_rest" "need_rest" s_need_rest a fd) : Binds K fd P_need_rest [] := F.binds fun _ _ _ _ _ _ us hl => match us, hl with | [_, _], _ => rfl
def B_need_rest_0 : DS := (dIfS (dtNot (dtTru (dCall D_fits_count (dCons (dVar 1) (dCons (dVar 0) dNil))))) dNever dNext)
def D_need_rest : Fn := dFun 2 2 B_need_rest_0
theorem no_need_rest : ∀ ivs S, ivs.length ≠ 2 → D_need_rest ivs S = .no := dFun_no
abbrev s_root : Stmt := topS 20
abbrev N_root : List Str := ["prime", "rest", "found"]
abbrev P_root : List Str := ["prime", "rest"]
theorem sc_root : FnScope N_root P_root (defScope s_root) := ⟨rfl, rfl, rfl, by decide +kernel, rfl, by decide +kernel, by decide +kernel⟩
theorem bd_root {K : PySem.W.Frag} {a : Addr} {fd : FuncData} (F : Fun K "root" "root" s_root a fd) : Binds K fd P_root [] := F.binds fun _ _ _ _ _ _ us hl => match us, hl with | [_, _], _ => rfl
def B_root_0 : DS := (dExpr (dCall D_need_prime (dCons (dVar 0) dNil)))
def B_root_1 : DS := (dExpr (dCall D_need_rest (dCons (dVar 0) (dCons (dVar 1) dNil))))
def B_root_2 : DS := (dFor (diRng1 (dCons (dVar 0) dNil)) (.nm 2) (dIfS (dtVal (dOp fEq (dOp fMod (dOp fMul (dVar 2) (dVar 2)) (dVar 0)) (dVar 1))) (dRet (dVar 2)) dNext))
def B_root_3 : DS := (dRet (dC .non))
def D_root : Fn := dFun 2 3 (dSeq B_root_0 (dSeq B_root_1 (dSeq B_root_2 B_root_3)))
theorem no_root : ∀ ivs S, ivs.length ≠ 2 → D_root ivs S = .no := dFun_no
abbrev s_least_odd : Stmt := topS 21
abbrev N_least_odd : List Str := ["prime", "rest"]
abbrev P_least_odd : List Str := ["prime"]
theorem sc_least_odd : FnScope N_least_odd P_least_odd (defScope s_least_odd) := ⟨rfl, rfl, rfl, by decide +kernel, rfl, by decide +kernel, by decide +kernel⟩
theorem bd_least_odd {K : PySem.W.Frag} {a : Addr} {fd : FuncData} (F : Fun K "least_odd" "least_odd" s_least_odd a fd) : Binds K fd P_least_odd [] := F.binds fun _ _ _ _ _ _ us hl => match us, hl with | [_], _ => rfl
def B_least_odd_0 : DS := (dExpr (dCall D_need_prime (dCons (dVar 0) dNil)))
def B_least_odd_1 : DS := (dAsg (dC (.int 2)) (.nm 1))
def B_least_odd_2 : DS := (whileI (dtVal (dOp (fIs true) (dCall D_root (dCons (dVar 0) (dCons (dVar 1) dNil))) (dC .non))) (dAug 1 (fInt fun i j => .int (i + j)) (dC (.int 1))) 1000)
def B_least_odd_3 : DS := (dRet (dVar 1))
def D_least_odd : Fn := dFun 1 2 (dSeq B_least_odd_0 (dSeq B_least_odd_1 (dSeq B_least_odd_2 B_least_odd_3)))
theorem no_least_odd : ∀ ivs S, ivs.length ≠ 1 → D_least_odd ivs S = .no := dFun_no
abbrev s_sign_rest : Stmt := topS 19
abbrev N_sign_rest : List Str := ["prime", "rest", "found"]
abbrev P_sign_rest : List Str := ["prime", "rest"]
theorem sc_sign_rest : FnScope N_sign_rest P_sign_rest (defScope s_sign_rest) := ⟨rfl, rfl, rfl, by decide +kernel, rfl, by decide +kernel, by decide +kernel⟩
theorem bd_sign_rest {K : PySem.W.Frag} {a : Addr} {fd : FuncData} (F : Fun K "sign_rest" "sign_rest" s_sign_rest a fd) : Binds K fd P_sign_rest [] := F.binds fun _ _ _ _ _ _ us hl => match us, hl with | [_, _], _ => rfl
def B_sign_rest_0 : DS := (dAsg (dCall D_root (dCons (dVar 0) (dCons (dVar 1) dNil))) (.nm 2))
def B_sign_rest_1 : DS := (dIfS (dtVal (dOp (fIs false) (dVar 2) (dC .non))) (dRet (dUn fNeg (dC (.int 1)))) dNext)
def B_sign_rest_2 : DS := (dRet (dIf (dtVal (dOp fEq (dVar 2) (dC (.int 0)))) (dC (.int 0)) (dC (.int 1))))
def D_sign_rest : Fn := dFun 2 3 (dSeq B_sign_rest_0 (dSeq B_sign_rest_1 B_sign_rest_2))
theorem no_sign_rest : ∀ ivs S, ivs.length ≠ 2 → D_sign_rest ivs S = .no := dFun_no
abbrev s_is_rest : Stmt := topS 17
abbrev N_is_rest : List Str := ["prime", "value"]
abbrev P_is_rest : List Str := ["prime", "value"]
theorem sc_is_rest : FnScope N_is_rest P_is_rest (defScope s_is_rest) := ⟨rfl, rfl, rfl, by decide +kernel, rfl, by decide +kernel, by decide +kernel⟩
theorem bd_is_rest {K : PySem.W.Frag} {a : Addr} {fd : FuncData} (F : Fun K "is_rest" "is_rest" s_is_rest a fd) : Binds K fd P_is_rest [] := F.binds fun _ _ _ _ _ _ us hl => match us, hl with | [_, _], _ => rfl
def B_is_rest_0 : DS := (dExpr (dCall D_need_prime (dCons (dVar 0) dNil)))
def B_is_rest_1 : DS := (dRet (dCall D_fits_count (dCons (dVar 1) (dCons (dVar 0) dNil))))
def D_is_rest : Fn := dFun 2 2 (dSeq B_is_rest_0 B_is_rest_1)
theorem no_is_rest : ∀ ivs S, ivs.length ≠ 2 → D_is_rest ivs S = .no := dFun_no
abbrev s_two_squares : Stmt := topS 22
abbrev N_two_squares : List Str := ["prime", "rest", "first"]
abbrev P_two_squares : List Str := ["prime", "rest"]
theorem sc_two_squares : FnScope N_two_squares P_two_squares (defScope s_two_squares) := ⟨rfl, rfl, rfl, by decide +kernel, rfl, by decide +kernel, by decide +kernel⟩
theorem bd_two_squares {K : PySem.W.Frag} {a : Addr} {fd : FuncData} (F : Fun K "two_squares" "two_squares" s_two_squares a fd) : Binds K fd P_two_squares [] := F.binds fun _ _ _ _ _ _ us hl => match us, hl with | [_, _], _ => rfl
def B_two_squares_0 : DS := (dExpr (dCall D_need_prime (dCons (dVar 0) dNil)))
def B_two_squares_1 : DS := (dExpr (dCall D_need_rest (dCons (dVar 0) (dCons (dVar 1) dNil))))
def B_two_squares_2 : DS := (dAsg (dC (.int 0)) (.nm 2))
def B_two_squares_3 : DS := (whileI (dtVal (dOp (fIs false) (dCall D_root (dCons (dVar 0) (dCons (dOp fMod (dOp fSub (dVar 1) (dOp fMul (dVar 2) (dVar 2))) (dVar 0)) dNil))) (dC .non))) (dAug 2 (fInt fun i j => .int (i + j)) (dC (.int 1))) 1000)
def B_two_squares_4 : DS := (dRet (dTup (dCons (dVar 2) (dCons (dCall D_root (dCons (dVar 0) (dCons (dOp fMod (dOp fSub (dVar 1) (dOp fMul (dVar 2) (dVar 2))) (dVar 0)) dNil))) dNil))))
def D_two_squares : Fn := dFun 2 3 (dSeq B_two_squares_0 (dSeq B_two_squares_1 (dSeq B_two_squares_2 (dSeq B_two_squares_3 B_two_squares_4))))
theorem no_two_squares : ∀ ivs S, ivs.length ≠ 2 → D_two_squares ivs S = .no := dFun_no
abbrev s_inverse : Stmt := topS 14
abbrev N_inverse : List Str := ["prime", "rest", "product", "_"]
abbrev P_inverse : List Str := ["prime", "rest"]
theorem sc_inverse : FnScope N_inverse P_inverse (defScope s_inverse) := ⟨rfl, rfl, rfl, by decide +kernel, rfl, by decide +kernel, by decide +kernel⟩
theorem bd_inverse {K : PySem.W.Frag} {a : Addr} {fd : FuncData} (F : Fun K "inverse" "inverse" s_inverse a fd) : Binds K fd P_inverse [] := F.binds fun _ _ _ _ _ _ us hl => match us, hl with | [_, _], _ => rfl
def B_inverse_0 : DS := (dAsg (dC (.int 1)) (.nm 2))
def B_inverse_1 : DS := (dFor (diRng1 (dCons (dOp fSub (dVar 0) (dC (.int 2))) dNil)) (.nm 3) (dAsg (dOp fMod (dOp fMul (dVar 2) (dVar 1)) (dVar 0)) (.nm 2)))
def B_inverse_2 : DS := (dRet (dVar 2))
def D_inverse : Fn := dFun 2 4 (dSeq B_inverse_0 (dSeq B_inverse_1 B_inverse_2))
theorem no_inverse : ∀ ivs S, ivs.length ≠ 2 → D_inverse ivs S = .no := dFun_no
abbrev s_undone_rest : Stmt := topS 18
abbrev N_undone_rest : List Str := ["prime", "rest"]
abbrev P_undone_rest : List Str := ["prime", "rest"]
theorem sc_undone_rest : FnScope N_undone_rest P_undone_rest (defScope s_undone_rest) := ⟨rfl, rfl, rfl, by decide +kernel, rfl, by decide +kernel, by decide +kernel⟩
theorem bd_undone_rest {K : PySem.W.Frag} {a : Addr} {fd : FuncData} (F : Fun K "undone_rest" "undone_rest" s_undone_rest a fd) : Binds K fd P_undone_rest [] := F.binds fun _ _ _ _ _ _ us hl => match us, hl with | [_, _], _ => rfl
def B_undone_rest_0 : DS := (dExpr (dCall D_need_prime (dCons (dVar 0) dNil)))
def B_undone_rest_1 : DS := (dExpr (dCall D_need_rest (dCons (dVar 0) (dCons (dVar 1) dNil))))
def B_undone_rest_2 : DS := (dIfS (dtVal (dOp fEq (dVar 1) (dC (.int 0)))) dNever dNext)
def B_undone_rest_3 : DS := (dRet (dCall D_inverse (dCons (dVar 0) (dCons (dVar 1) dNil))))
def D_undone_rest : Fn := dFun 2 2 (dSeq B_undone_rest_0 (dSeq B_undone_rest_1 (dSeq B_undone_rest_2 B_undone_rest_3)))
theorem no_undone_rest : ∀ ivs S, ivs.length ≠ 2 → D_undone_rest ivs S = .no := dFun_no
abbrev s__law_prime_right : Stmt := topS 27
abbrev N__law_prime_right : List Str := ["_law_prime", "_law_squares", "_law_odds", "_law_rest", "_law_sign", "_law_lesser", "_law_pairs", "_law_one", "_law_due", "_law_two"]
abbrev P__law_prime_right : List Str := ["_law_prime"]
theorem sc__law_prime_right : FnScope N__law_prime_right P__law_prime_right (defScope s__law_prime_right) := ⟨rfl, rfl, rfl, by decide +kernel, rfl, by decide +kernel, by decide +kernel⟩
theorem bd__law_prime_right {K : PySem.W.Frag} {a : Addr} {fd : FuncData} (F : Fun K "_law_prime_right" "_law_prime_right" s__law_prime_right a fd) : Binds K fd P__law_prime_right [] := F.binds fun _ _ _ _ _ _ us hl => match us, hl with | [_], _ => rfl
def B__law_prime_right_0 : DS := (dAsg (dLc (diRng1 (dCons (dVar 0) dNil)) (.nm 7) dtYes (dOp fMod (dCall fInt1 (dCons (dOp fMul (dVar 7) (dVar 7)) dNil)) (dVar 0)) [7]) (.nm 1))
def B__law_prime_right_1 : DS := (dAsg (dLc (diRng1 (dCons (dVar 0) dNil)) (.nm 7) (dtVal (dOp (fIn true) (dVar 7) (dVar 1))) (dVar 7) [7]) (.nm 2))
def B__law_prime_right_2 : DS := (dIfS (dtOr (dtVal (dOp fNe (dCall fRepr (dCons (dCall D_least_odd (dCons (dVar 0) dNil)) dNil)) (dCall fRepr (dCons (dOp fIx (dVar 2) (dC (.int 0))) dNil)))) (dtOr (dtVal (dOp fNe (dCallP D_least_odd 0 1 [0] dNil (dCons (dVar 0) dNil)) (dOp fIx (dVar 2) (dC (.int 0))))) (dtVal (dOp fNe (dCall fLen (dCons (dVar 2) dNil)) (dOp fDiv (dOp fSub (dVar 0) (dC (.int 1))) (dC (.int 2))))))) (dRet (dC (.bl false))) dNext)
def B__law_prime_right_3 : DS := (dFor (diRng1 (dCons (dVar 0) dNil)) (.nm 3) (dSeq (dAsg (dIf (dtVal (dOp fEq (dVar 3) (dC (.int 0)))) (dC (.int 0)) (dIf (dtVal (dOp (fIn false) (dVar 3) (dVar 1))) (dC (.int 1)) (dUn fNeg (dC (.int 1))))) (.nm 4)) (dSeq (dAsg (dIf (dtVal (dOp (fIn false) (dVar 3) (dVar 1))) (dBM mIndex (dVar 1) (dCons (dVar 3) dNil)) (dC .non)) (.nm 5)) (dSeq (dIfS (dtOr (dtVal (dOp fNe (dCall fRepr (dCons (dLst (dCons (dCall D_sign_rest (dCons (dVar 0) (dCons (dVar 3) dNil))) (dCons (dCall D_root (dCons (dVar 0) (dCons (dVar 3) dNil))) dNil))) dNil)) (dCall fRepr (dCons (dLst (dCons (dVar 4) (dCons (dVar 5) dNil))) dNil)))) (dtVal (dOp (fIs true) (dCall D_is_rest (dCons (dVar 0) (dCons (dVar 3) dNil))) (dC (.bl true))))) (dRet (dC (.bl false))) dNext) (dSeq (dAsg (dLst dNil) (.nm 6)) (dSeq (dFor (diRng1 (dCons (dVar 0) dNil)) (.nm 7) (dExpr (dBM mExtend (dVar 6) (dCons (dLc (diRng1 (dCons (dVar 0) dNil)) (.nm 9) (dtVal (dOp fEq (dOp fMod (dCall fInt1 (dCons (dOp fAdd (dOp fMul (dVar 7) (dVar 7)) (dOp fMul (dVar 9) (dVar 9))) dNil)) (dVar 0)) (dVar 3))) (dTup (dCons (dVar 7) (dCons (dVar 9) dNil))) [9]) dNil)))) (dSeq (dIfS (dtOr (dtVal (dOp fNe (dCall fRepr (dCons (dCall D_two_squares (dCons (dVar 0) (dCons (dVar 3) dNil))) dNil)) (dCall fRepr (dCons (dOp fIx (dVar 6) (dC (.int 0))) dNil)))) (dtVal (dOp fNe (dCallP D_two_squares 0 2 [1, 0] dNil (dCons (dVar 3) (dCons (dVar 0) dNil))) (dOp fIx (dVar 6) (dC (.int 0)))))) (dRet (dC (.bl false))) dNext) (dSeq (dAsg (dLc (diRng1 (dCons (dVar 0) dNil)) (.nm 7) (dtVal (dOp fEq (dOp fMod (dCall fInt1 (dCons (dOp fMul (dVar 7) (dVar 3)) dNil)) (dVar 0)) (dC (.int 1)))) (dVar 7) [7]) (.nm 8)) (dIfS (dtAnd (dtVal (dOp fGt (dVar 3) (dC (.int 0)))) (dtVal (dOp fNe (dCall fRepr (dCons (dLst (dCons (dCall D_undone_rest (dCons (dVar 0) (dCons (dVar 3) dNil))) (dCons (dCallP D_undone_rest 0 2 [1, 0] dNil (dCons (dVar 3) (dCons (dVar 0) dNil))) dNil))) dNil)) (dCall fRepr (dCons (dOp fMul (dVar 8) (dC (.int 2))) dNil))))) (dRet (dC (.bl false))) dNext)))))))))
def B__law_prime_right_4 : DS := (dRet (dC (.bl true)))
def D__law_prime_right : Fn := dFun 1 10 (dSeq B__law_prime_right_0 (dSeq B__law_prime_right_1 (dSeq B__law_prime_right_2 (dSeq B__law_prime_right_3 B__law_prime_right_4))))
theorem no__law_prime_right : ∀ ivs S, ivs.length ≠ 1 → D__law_prime_right ivs S = .no := dFun_no
abbrev s__law_draw : Stmt := topS 25
abbrev N__law_draw : List Str := ["_law_pot_here", "_law_room", "_law_digit"]
abbrev P__law_draw : List Str := ["_law_pot_here", "_law_room"]
theorem sc__law_draw : FnScope N__law_draw P__law_draw (defScope s__law_draw) := ⟨rfl, rfl, rfl, by decide +kernel, rfl, by decide +kernel, by decide +kernel⟩
theorem bd__law_draw {K : PySem.W.Frag} {a : Addr} {fd : FuncData} (F : Fun K "_law_draw" "_law_draw" s__law_draw a fd) : Binds K fd P__law_draw [] := F.binds fun _ _ _ _ _ _ us hl => match us, hl with | [_, _], _ => rfl
def B__law_draw_0 : DS := (dIfS (dtVal (dOp fGt (dOp fIx (dVar 0) (dC (.int 0))) (dC (.int 0)))) (dSeq (dAsgG (dCall fDivmod (dCons (dOp fIx (dVar 0) (dC (.int 0))) (dCons (dVar 1) dNil))) (gdPair (gdSub (dVar 0) (dC (.int 0))) (gdName 2))) (dRet (dVar 2))) dNext)
def B__law_draw_1 : DS := (dAsgG (dOp fMod (dCall fInt1 (dCons (dOp fAdd (dOp fMul (dOp fIx (dVar 0) (dC (.int 1))) (dC (.int 48271))) (dC (.int 18140))) dNil)) (dC (.int 2147483587))) (gdSub (dVar 0) (dC (.int 1))))
def B__law_draw_2 : DS := (dRet (dOp fMod (dCall fInt1 (dCons (dOp fDiv (dOp fMod (dCall fInt1 (dCons (dOp fMul (dOp fIx (dVar 0) (dC (.int 1))) (dOp fIx (dVar 0) (dC (.int 1)))) dNil)) (dC (.int 2147483549))) (dC (.int 37))) dNil)) (dVar 1)))
def D__law_draw : Fn := dFun 2 3 (dSeq B__law_draw_0 (dSeq B__law_draw_1 B__law_draw_2))
theorem no__law_draw : ∀ ivs S, ivs.length ≠ 2 → D__law_draw ivs S = .no := dFun_no
abbrev s__law_pick : Stmt := topS 26
abbrev N__law_pick : List Str := ["_law_pot_here", "_law_some"]
abbrev P__law_pick : List Str := ["_law_pot_here", "_law_some"]
theorem sc__law_pick : FnScope N__law_pick P__law_pick (defScope s__law_pick) := ⟨rfl, rfl, rfl, by decide +kernel, rfl, by decide +kernel, by decide +kernel⟩
theorem bd__law_pick {K : PySem.W.Frag} {a : Addr} {fd : FuncData} (F : Fun K "_law_pick" "_law_pick" s__law_pick a fd) : Binds K fd P__law_pick [] := F.binds fun _ _ _ _ _ _ us hl => match us, hl with | [_, _], _ => rfl
def B__law_pick_0 : DS := (dRet (dOp fIx (dVar 1) (dCall D__law_draw (dCons (dVar 0) (dCons (dCall fLen (dCons (dVar 1) dNil)) dNil)))))
def D__law_pick : Fn := dFun 2 2 B__law_pick_0
theorem no__law_pick : ∀ ivs S, ivs.length ≠ 2 → D__law_pick ivs S = .no := dFun_no
abbrev s__law_right : Stmt := topS 28
abbrev N__law_right : List Str := ["_law_pot_here", "_law_prime", "_law_one", "_law_other", "_law_both"]
abbrev P__law_right : List Str := ["_law_pot_here"]
theorem sc__law_right : FnScope N__law_right P__law_right (defScope s__law_right) := ⟨rfl, rfl, rfl, by decide +kernel, rfl, by decide +kernel, by decide +kernel⟩
theorem bd__law_right {K : PySem.W.Frag} {a : Addr} {fd : FuncData} (F : Fun K "_law_right" "_law_right" s__law_right a fd) : Binds K fd P__law_right [] := F.binds fun _ _ _ _ _ _ us hl => match us, hl with | [_], _ => rfl
def B__law_right_0 : DS := (dFor (diSeq (dLst (dCons (dC (.int 3)) (dCons (dC (.int 5)) (dCons (dC (.int 7)) (dCons (dC (.int 11)) (dCons (dC (.int 13)) dNil))))))) (.nm 1) (dIfS (dtOr (dtVal (dOp (fIs true) (dCall D_is_prime (dCons (dVar 1) dNil)) (dC (.bl true)))) (dtNot (dtTru (dCall D__law_prime_right (dCons (dVar 1) dNil))))) (dRet (dC (.bl false))) dNext))
def B__law_right_1 : DS := (dAsg (dCall D__law_pick (dCons (dVar 0) (dCons (dLst (dCons (dC (.int 3)) (dCons (dC (.int 5)) (dCons (dC (.int 7)) (dCons (dC (.int 11)) (dCons (dC (.int 13)) dNil)))))) dNil))) (.nm 1))
def B__law_right_2 : DS := (dPar 2 3 (dCons (dCall D__law_draw (dCons (dVar 0) (dCons (dVar 1) dNil))) (dCons (dCall D__law_draw (dCons (dVar 0) (dCons (dVar 1) dNil))) dNil)))
def B__law_right_3 : DS := (dAsg (dOp fMod (dCall fInt1 (dCons (dOp fMul (dVar 2) (dVar 3)) dNil)) (dVar 1)) (.nm 4))
def B__law_right_4 : DS := (dIfS (dtVal (dOp fNe (dCall D_sign_rest (dCons (dVar 1) (dCons (dVar 4) dNil))) (dOp fMul (dCall D_sign_rest (dCons (dVar 1) (dCons (dVar 2) dNil))) (dCallP D_sign_rest 0 2 [1, 0] dNil (dCons (dVar 3) (dCons (dVar 1) dNil)))))) (dRet (dC (.bl false))) dNext)
def B__law_right_5 : DS := (dIfS (dtAnd (dtVal (dOp fGt (dVar 4) (dC (.int 0)))) (dtVal (dOp fNe (dOp fMod (dCall fInt1 (dCons (dOp fMul (dCall D_undone_rest (dCons (dVar 1) (dCons (dVar 2) dNil))) (dCall D_undone_rest (dCons (dVar 1) (dCons (dVar 3) dNil)))) dNil)) (dVar 1)) (dCall D_undone_rest (dCons (dVar 1) (dCons (dVar 4) dNil)))))) (dRet (dC (.bl false))) dNext)
def B__law_right_6 : DS := (dRet (dOp fEq (dLst (dCons (dCall D_undone_rest (dCons (dC (.int 7)) (dCons (dC (.int 3)) dNil))) (dCons (dCall D_sign_rest (dCons (dC (.int 7)) (dCons (dC (.int 3)) dNil))) (dCons (dCall D_root (dCons (dC (.int 7)) (dCons (dC (.int 2)) dNil))) (dCons (dCall D_root (dCons (dC (.int 7)) (dCons (dC (.int 3)) dNil))) (dCons (dCall D_least_odd (dCons (dC (.int 7)) dNil)) (dCons (dCall D_two_squares (dCons (dC (.int 7)) (dCons (dC (.int 3)) dNil))) dNil))))))) (dLst (dCons (dC (.int 5)) (dCons (dUn fNeg (dC (.int 1))) (dCons (dC (.int 3)) (dCons (dC .non) (dCons (dC (.int 3)) (dCons (dTup (dCons (dC (.int 1)) (dCons (dC (.int 3)) dNil))) dNil)))))))))
def D__law_right : Fn := dFun 1 5 (dSeq B__law_right_0 (dSeq B__law_right_1 (dSeq B__law_right_2 (dSeq B__law_right_3 (dSeq B__law_right_4 (dSeq B__law_right_5 B__law_right_6))))))
theorem no__law_right : ∀ ivs S, ivs.length ≠ 1 → D__law_right ivs S = .no := dFun_no
abbrev s__law_pot : Stmt := topS 24
abbrev N__law_pot : List Str := ["_law_script", "_law_k", "_law_cell"]
abbrev P__law_pot : List Str := ["_law_script", "_law_k"]
theorem sc__law_pot : FnScope N__law_pot P__law_pot (defScope s__law_pot) := ⟨rfl, rfl, rfl, by decide +kernel, rfl, by decide +kernel, by decide +kernel⟩
theorem bd__law_pot {K : PySem.W.Frag} {a : Addr} {fd : FuncData} (F : Fun K "_law_pot" "_law_pot" s__law_pot a fd) : Binds K fd P__law_pot [] := F.binds fun _ _ _ _ _ _ us hl => match us, hl with | [_, _], _ => rfl
def B__law_pot_0 : DS := (dAsg (dOp fAdd (dOp fMul (dC (.int 127)) (dVar 1)) (dC (.int 53))) (.nm 2))
def B__law_pot_1 : DS := (dIfS (dtVal (dOp fLt (dVar 1) (dCall fLen (dCons (dVar 0) dNil)))) (dAsg (dCall fAbs (dCons (dOp fIx (dVar 0) (dVar 1)) dNil)) (.nm 2)) dNext)
def B__law_pot_2 : DS := (dRet (dLst (dCons (dCall fMax2 (dCons (dC (.int 0)) (dCons (dOp fSub (dVar 2) (dOp fPow (dC (.int 10)) (dC (.int 18)))) dNil))) (dCons (dOp fAdd (dOp fMod (dOp fMul (dCall fInt1 (dCons (dOp fAdd (dOp fMod (dCall fInt1 (dCons (dVar 2) dNil)) (dC (.int 2147483549))) (dC (.int 53))) dNil)) (dOp fPow (dOp fAdd (dOp fMul (dC (.int 2)) (dVar 1)) (dC (.int 3))) (dC (.int 3)))) (dC (.int 2147483477))) (dC (.int 1))) dNil))))
def D__law_pot : Fn := dFun 2 3 (dSeq B__law_pot_0 (dSeq B__law_pot_1 B__law_pot_2))
theorem no__law_pot : ∀ ivs S, ivs.length ≠ 2 → D__law_pot ivs S = .no := dFun_no
abbrev s_law : Stmt := topS 29
abbrev N_law : List Str := ["_law_script"]
abbrev P_law : List Str := ["_law_script"]
theorem sc_law : FnScope N_law P_law (defScope s_law) := ⟨rfl, rfl, rfl, by decide +kernel, rfl, by decide +kernel, by decide +kernel⟩
theorem bd_law {K : PySem.W.Frag} {a : Addr} {fd : FuncData} (F : Fun K "law" "law" s_law a fd) : Binds K fd P_law [] := F.binds fun _ _ _ _ _ _ us hl => match us, hl with | [_], _ => rfl
def B_law_0 : DS := (dRet (dCall D__law_right (dCons (dCall D__law_pot (dCons (dVar 0) (dCons (dC (.int 0)) dNil))) dNil)))
def D_law : Fn := dFun 1 1 B_law_0
theorem no_law : ∀ ivs S, ivs.length ≠ 1 → D_law ivs S = .no := dFun_no
theorem kb_least_odd_0_0 {K : PySem.W.Frag} {a : Addr} {fd : FuncData} (F : Fun K "least_odd" "least_odd" s_least_odd a fd) : KBinds K fd P_least_odd ["prime"] (gP 0 1 [0]) (gP 0 1 [0]) := kbinds F (by decide) fun _ _ _ _ _ _ us ws h1 h2 => match us, ws, h1, h2 with | [], [_], _, _ => rfl
theorem kb_undone_rest_0_1_0 {K : PySem.W.Frag} {a : Addr} {fd : FuncData} (F : Fun K "undone_rest" "undone_rest" s_undone_rest a fd) : KBinds K fd P_undone_rest ["rest", "prime"] (gP 0 2 [1, 0]) (gP 0 2 [1, 0]) := kbinds F (by decide) fun _ _ _ _ _ _ us ws h1 h2 => match us, ws, h1, h2 with | [], [_, _], _, _ => rfl
theorem kb_two_squares_0_1_0 {K : PySem.W.Frag} {a : Addr} {fd : FuncData} (F : Fun K "two_squares" "two_squares" s_two_squares a fd) : KBinds K fd P_two_squares ["rest", "prime"] (gP 0 2 [1, 0]) (gP 0 2 [1, 0]) := kbinds F (by decide) fun _ _ _ _ _ _ us ws h1 h2 => match us, ws, h1, h2 with | [], [_, _], _, _ => rfl
theorem kb_sign_rest_0_1_0 {K : PySem.W.Frag} {a : Addr} {fd : FuncData} (F : Fun K "sign_rest" "sign_rest" s_sign_rest a fd) : KBinds K fd P_sign_rest ["rest", "prime"] (gP 0 2 [1, 0]) (gP 0 2 [1, 0]) := kbinds F (by decide) fun _ _ _ _ _ _ us ws h1 h2 => match us, ws, h1, h2 with | [], [_, _], _, _ => rfl
structure Facts (K : PySem.W.Frag) (mg : Str → Option Value) (M0 : List Addr) : Prop where
  z_abs : mg "abs" = none
  z_bool : mg "bool" = none
  z_divmod : mg "divmod" = none
  z_int : mg "int" = none
  z_isinstance : mg "isinstance" = none
  z_len : mg "len" = none
  z_max : mg "max" = none
  z_range : mg "range" = none
  z_repr : mg "repr" = none
  ex_PRIMES : ∃ q, mg "PRIMES" = some (.ref q) ∧ M0[0]? = some q
  f_fits_integer : ∃ a fd, Fun K "fits_integer" "fits_integer" s_fits_integer a fd ∧ mg "fits_integer" = some (.ref a)
  f_fits_prime : ∃ a fd, Fun K "fits_prime" "fits_prime" s_fits_prime a fd ∧ mg "fits_prime" = some (.ref a)
  f_is_prime : ∃ a fd, Fun K "is_prime" "is_prime" s_is_prime a fd ∧ mg "is_prime" = some (.ref a)
  f_need_prime : ∃ a fd, Fun K "need_prime" "need_prime" s_need_prime a fd ∧ mg "need_prime" = some (.ref a)
  f_fits_count : ∃ a fd, Fun K "fits_count" "fits_count" s_fits_count a fd ∧ mg "fits_count" = some (.ref a)
  f_need_rest : ∃ a fd, Fun K "need_rest" "need_rest" s_need_rest a fd ∧ mg "need_rest" = some (.ref a)
  f_root : ∃ a fd, Fun K "root" "root" s_root a fd ∧ mg "root" = some (.ref a)
  f_least_odd : ∃ a fd, Fun K "least_odd" "least_odd" s_least_odd a fd ∧ mg "least_odd" = some (.ref a)
  f_sign_rest : ∃ a fd, Fun K "sign_rest" "sign_rest" s_sign_rest a fd ∧ mg "sign_rest" = some (.ref a)
  f_is_rest : ∃ a fd, Fun K "is_rest" "is_rest" s_is_rest a fd ∧ mg "is_rest" = some (.ref a)
  f_two_squares : ∃ a fd, Fun K "two_squares" "two_squares" s_two_squares a fd ∧ mg "two_squares" = some (.ref a)
  f_inverse : ∃ a fd, Fun K "inverse" "inverse" s_inverse a fd ∧ mg "inverse" = some (.ref a)
  f_undone_rest : ∃ a fd, Fun K "undone_rest" "undone_rest" s_undone_rest a fd ∧ mg "undone_rest" = some (.ref a)
  f__law_prime_right : ∃ a fd, Fun K "_law_prime_right" "_law_prime_right" s__law_prime_right a fd ∧ mg "_law_prime_right" = some (.ref a)
  f__law_draw : ∃ a fd, Fun K "_law_draw" "_law_draw" s__law_draw a fd ∧ mg "_law_draw" = some (.ref a)
  f__law_pick : ∃ a fd, Fun K "_law_pick" "_law_pick" s__law_pick a fd ∧ mg "_law_pick" = some (.ref a)
  f__law_right : ∃ a fd, Fun K "_law_right" "_law_right" s__law_right a fd ∧ mg "_law_right" = some (.ref a)
  f__law_pot : ∃ a fd, Fun K "_law_pot" "_law_pot" s__law_pot a fd ∧ mg "_law_pot" = some (.ref a)
  f_law : ∃ a fd, Fun K "law" "law" s_law a fd ∧ mg "law" = some (.ref a)
structure C0 (K : PySem.W.Frag) (mg : Str → Option Value) (M0 : List Addr) where
  a_PRIMES : Addr
  z_abs : mg "abs" = none
  z_bool : mg "bool" = none
  z_divmod : mg "divmod" = none
  z_int : mg "int" = none
  z_isinstance : mg "isinstance" = none
  z_len : mg "len" = none
  z_max : mg "max" = none
  z_range : mg "range" = none
  z_repr : mg "repr" = none
  m_PRIMES : mg "PRIMES" = some (.ref a_PRIMES)
  i_PRIMES : M0[0]? = some a_PRIMES
theorem ok_fits_integer {P : Program} {w : World} {K : PySem.W.Frag} {mg : Str → Option Value} {base : Heap} {M0 : List Addr} (c : C0 K mg M0)  {a : Addr} {fd : FuncData} (F : Fun K "fits_integer" "fits_integer" s_fits_integer a fd) : FnG P w K mg base 1 a fd P_fits_integer (spI K M0 1 D_fits_integer) :=
  fn_g F sc_fits_integer fun cdv A outer s H hr hgd =>
    (ss_one (s_ret (e_and (e_is1 (tn := .int) (by rfl) c.z_isinstance (by rfl) c.z_int (by decide +kernel) (e_var 0)) (e_one (e_not (e_is1 (tn := .bool) (by rfl) c.z_isinstance (by rfl) c.z_bool (by decide +kernel) (e_var 0)))))))
theorem ok_fits_prime {P : Program} {w : World} {K : PySem.W.Frag} {mg : Str → Option Value} {base : Heap} {M0 : List Addr} (c : C0 K mg M0) {a_fits_integer : Addr} {fd_fits_integer : FuncData} (F_fits_integer : Fun K "fits_integer" "fits_integer" s_fits_integer a_fits_integer fd_fits_integer) (G_fits_integer : mg "fits_integer" = some (.ref a_fits_integer) ∧ FnG P w K mg base 1 a_fits_integer fd_fits_integer P_fits_integer (spI K M0 1 D_fits_integer)) {a : Addr} {fd : FuncData} (F : Fun K "fits_prime" "fits_prime" s_fits_prime a fd) : FnG P w K mg base 2 a fd P_fits_prime (spI K M0 1 D_fits_prime) :=
  fn_g F sc_fits_prime fun cdv A outer s H hr hgd =>
    (ss_one (s_ret (e_and (e_call no_fits_integer G_fits_integer.2 (hr.mono (by decide)) hgd (by rfl) G_fits_integer.1 F_fits_integer.kp (bd_fits_integer F_fits_integer) (a_cons (e_var 0) a_nil)) (e_one (e_cmp k_in (e_var 0) (e_glob 0 (by rfl) c.m_PRIMES c.i_PRIMES) (by with_unfolding_all rfl))))))
theorem ok_is_prime {P : Program} {w : World} {K : PySem.W.Frag} {mg : Str → Option Value} {base : Heap} {M0 : List Addr} (c : C0 K mg M0) {a_fits_prime : Addr} {fd_fits_prime : FuncData} (F_fits_prime : Fun K "fits_prime" "fits_prime" s_fits_prime a_fits_prime fd_fits_prime) (G_fits_prime : mg "fits_prime" = some (.ref a_fits_prime) ∧ FnG P w K mg base 2 a_fits_prime fd_fits_prime P_fits_prime (spI K M0 1 D_fits_prime)) {a : Addr} {fd : FuncData} (F : Fun K "is_prime" "is_prime" s_is_prime a fd) : FnG P w K mg base 3 a fd P_is_prime (spI K M0 1 D_is_prime) :=
  fn_g F sc_is_prime fun cdv A outer s H hr hgd =>
    (ss_one (s_ret (e_call no_fits_prime G_fits_prime.2 (hr.mono (by decide)) hgd (by rfl) G_fits_prime.1 F_fits_prime.kp (bd_fits_prime F_fits_prime) (a_cons (e_var 0) a_nil))))
theorem ok_need_prime {P : Program} {w : World} {K : PySem.W.Frag} {mg : Str → Option Value} {base : Heap} {M0 : List Addr} (c : C0 K mg M0) {a_fits_prime : Addr} {fd_fits_prime : FuncData} (F_fits_prime : Fun K "fits_prime" "fits_prime" s_fits_prime a_fits_prime fd_fits_prime) (G_fits_prime : mg "fits_prime" = some (.ref a_fits_prime) ∧ FnG P w K mg base 2 a_fits_prime fd_fits_prime P_fits_prime (spI K M0 1 D_fits_prime)) {a : Addr} {fd : FuncData} (F : Fun K "need_prime" "need_prime" s_need_prime a fd) : FnG P w K mg base 3 a fd P_need_prime (spI K M0 1 D_need_prime) :=
  fn_g F sc_need_prime fun cdv A outer s H hr hgd =>
    (ss_one (s_if (t_not (t_val (e_call no_fits_prime G_fits_prime.2 (hr.mono (by decide)) hgd (by rfl) G_fits_prime.1 F_fits_prime.kp (bd_fits_prime F_fits_prime) (a_cons (e_var 0) a_nil)))) (ss_one s_never) ss_nil))
theorem ok_fits_count {P : Program} {w : World} {K : PySem.W.Frag} {mg : Str → Option Value} {base : Heap} {M0 : List Addr} (c : C0 K mg M0) {a_fits_integer : Addr} {fd_fits_integer : FuncData} (F_fits_integer : Fun K "fits_integer" "fits_integer" s_fits_integer a_fits_integer fd_fits_integer) (G_fits_integer : mg "fits_integer" = some (.ref a_fits_integer) ∧ FnG P w K mg base 1 a_fits_integer fd_fits_integer P_fits_integer (spI K M0 1 D_fits_integer)) {a : Addr} {fd : FuncData} (F : Fun K "fits_count" "fits_count" s_fits_count a fd) : FnG P w K mg base 2 a fd P_fits_count (spI K M0 2 D_fits_count) :=
  fn_g F sc_fits_count fun cdv A outer s H hr hgd =>
    (ss_one (s_ret (e_and (e_call no_fits_integer G_fits_integer.2 (hr.mono (by decide)) hgd (by rfl) G_fits_integer.1 F_fits_integer.kp (bd_fits_integer F_fits_integer) (a_cons (e_var 0) a_nil)) (e_one (e_chain k_le k_lt e_int (e_var 0) (e_var 1))))))
theorem ok_need_rest {P : Program} {w : World} {K : PySem.W.Frag} {mg : Str → Option Value} {base : Heap} {M0 : List Addr} (c : C0 K mg M0) {a_fits_count : Addr} {fd_fits_count : FuncData} (F_fits_count : Fun K "fits_count" "fits_count" s_fits_count a_fits_count fd_fits_count) (G_fits_count : mg "fits_count" = some (.ref a_fits_count) ∧ FnG P w K mg base 2 a_fits_count fd_fits_count P_fits_count (spI K M0 2 D_fits_count)) {a : Addr} {fd : FuncData} (F : Fun K "need_rest" "need_rest" s_need_rest a fd) : FnG P w K mg base 3 a fd P_need_rest (spI K M0 2 D_need_rest) :=
  fn_g F sc_need_rest fun cdv A outer s H hr hgd =>
    (ss_one (s_if (t_not (t_val (e_call no_fits_count G_fits_count.2 (hr.mono (by decide)) hgd (by rfl) G_fits_count.1 F_fits_count.kp (bd_fits_count F_fits_count) (a_cons (e_var 1) (a_cons (e_var 0) a_nil))))) (ss_one s_never) ss_nil))
theorem ok_root {P : Program} {w : World} {K : PySem.W.Frag} {mg : Str → Option Value} {base : Heap} {M0 : List Addr} (c : C0 K mg M0) {a_need_prime : Addr} {fd_need_prime : FuncData} (F_need_prime : Fun K "need_prime" "need_prime" s_need_prime a_need_prime fd_need_prime) (G_need_prime : mg "need_prime" = some (.ref a_need_prime) ∧ FnG P w K mg base 3 a_need_prime fd_need_prime P_need_prime (spI K M0 1 D_need_prime)) {a_need_rest : Addr} {fd_need_rest : FuncData} (F_need_rest : Fun K "need_rest" "need_rest" s_need_rest a_need_rest fd_need_rest) (G_need_rest : mg "need_rest" = some (.ref a_need_rest) ∧ FnG P w K mg base 3 a_need_rest fd_need_rest P_need_rest (spI K M0 2 D_need_rest)) {a : Addr} {fd : FuncData} (F : Fun K "root" "root" s_root a fd) : FnG P w K mg base 4 a fd P_root (spI K M0 2 D_root) :=
  fn_g F sc_root fun cdv A outer s H hr hgd =>
    (ss_cons (s1 := B_root_0) (s_expr (e_call no_need_prime G_need_prime.2 (hr.mono (by decide)) hgd (by rfl) G_need_prime.1 F_need_prime.kp (bd_need_prime F_need_prime) (a_cons (e_var 0) a_nil)))
      (ss_cons (s1 := B_root_1) (s_expr (e_call no_need_rest G_need_rest.2 (hr.mono (by decide)) hgd (by rfl) G_need_rest.1 F_need_rest.kp (bd_need_rest F_need_rest) (a_cons (e_var 0) (a_cons (e_var 1) a_nil))))
      (ss_cons (s1 := B_root_2) (s_for PassesOwn.never (by rfl) (i_rng1 (by rfl) c.z_range (a_cons (e_var 0) a_nil)) (g_nm 2 sc_root.nd (by rfl) (.inl rfl)) (ss_one (s_if (t_cmp (k_eq hr) (e_mod (e_mul (e_var 2) (e_var 2)) (e_var 0)) (e_var 1) (nomark _)) (ss_one (s_ret (e_var 2))) ss_nil)))
      (ss_one (s_ret e_non)))))
theorem ok_least_odd {P : Program} {w : World} {K : PySem.W.Frag} {mg : Str → Option Value} {base : Heap} {M0 : List Addr} (c : C0 K mg M0) {a_need_prime : Addr} {fd_need_prime : FuncData} (F_need_prime : Fun K "need_prime" "need_prime" s_need_prime a_need_prime fd_need_prime) (G_need_prime : mg "need_prime" = some (.ref a_need_prime) ∧ FnG P w K mg base 3 a_need_prime fd_need_prime P_need_prime (spI K M0 1 D_need_prime)) {a_root : Addr} {fd_root : FuncData} (F_root : Fun K "root" "root" s_root a_root fd_root) (G_root : mg "root" = some (.ref a_root) ∧ FnG P w K mg base 4 a_root fd_root P_root (spI K M0 2 D_root)) {a : Addr} {fd : FuncData} (F : Fun K "least_odd" "least_odd" s_least_odd a fd) : FnG P w K mg base 5 a fd P_least_odd (spI K M0 1 D_least_odd) :=
  fn_g F sc_least_odd fun cdv A outer s H hr hgd =>
    (ss_cons (s1 := B_least_odd_0) (s_expr (e_call no_need_prime G_need_prime.2 (hr.mono (by decide)) hgd (by rfl) G_need_prime.1 F_need_prime.kp (bd_need_prime F_need_prime) (a_cons (e_var 0) a_nil)))
      (ss_cons (s1 := B_least_odd_1) (s_set 1 sc_least_odd.nd (by rfl) (.inl rfl) e_int)
      (ss_cons (s1 := B_least_odd_2) (s_while 1000 PassesOwn.never (t_cmp k_isN (e_call no_root G_root.2 (hr.mono (by decide)) hgd (by rfl) G_root.1 F_root.kp (bd_root F_root) (a_cons (e_var 0) (a_cons (e_var 1) a_nil))) e_non (nomark _)) (ss_one (s_augAdd 1 sc_least_odd.nd (by rfl) (.inl rfl) e_int)))
      (ss_one (s_ret (e_var 1))))))
theorem ok_sign_rest {P : Program} {w : World} {K : PySem.W.Frag} {mg : Str → Option Value} {base : Heap} {M0 : List Addr} (c : C0 K mg M0) {a_root : Addr} {fd_root : FuncData} (F_root : Fun K "root" "root" s_root a_root fd_root) (G_root : mg "root" = some (.ref a_root) ∧ FnG P w K mg base 4 a_root fd_root P_root (spI K M0 2 D_root)) {a : Addr} {fd : FuncData} (F : Fun K "sign_rest" "sign_rest" s_sign_rest a fd) : FnG P w K mg base 5 a fd P_sign_rest (spI K M0 2 D_sign_rest) :=
  fn_g F sc_sign_rest fun cdv A outer s H hr hgd =>
    (ss_cons (s1 := B_sign_rest_0) (s_set 2 sc_sign_rest.nd (by rfl) (.inl rfl) (e_call no_root G_root.2 (hr.mono (by decide)) hgd (by rfl) G_root.1 F_root.kp (bd_root F_root) (a_cons (e_var 0) (a_cons (e_var 1) a_nil))))
      (ss_cons (s1 := B_sign_rest_1) (s_if (t_cmp k_is (e_var 2) e_non (nomark _)) (ss_one (s_ret (e_neg e_int))) ss_nil)
      (ss_one (s_ret (e_if (t_cmp (k_eq hr) (e_var 2) e_int (nomark _)) e_int e_int)))))
theorem ok_is_rest {P : Program} {w : World} {K : PySem.W.Frag} {mg : Str → Option Value} {base : Heap} {M0 : List Addr} (c : C0 K mg M0) {a_need_prime : Addr} {fd_need_prime : FuncData} (F_need_prime : Fun K "need_prime" "need_prime" s_need_prime a_need_prime fd_need_prime) (G_need_prime : mg "need_prime" = some (.ref a_need_prime) ∧ FnG P w K mg base 3 a_need_prime fd_need_prime P_need_prime (spI K M0 1 D_need_prime)) {a_fits_count : Addr} {fd_fits_count : FuncData} (F_fits_count : Fun K "fits_count" "fits_count" s_fits_count a_fits_count fd_fits_count) (G_fits_count : mg "fits_count" = some (.ref a_fits_count) ∧ FnG P w K mg base 2 a_fits_count fd_fits_count P_fits_count (spI K M0 2 D_fits_count)) {a : Addr} {fd : FuncData} (F : Fun K "is_rest" "is_rest" s_is_rest a fd) : FnG P w K mg base 4 a fd P_is_rest (spI K M0 2 D_is_rest) :=
  fn_g F sc_is_rest fun cdv A outer s H hr hgd =>
    (ss_cons (s1 := B_is_rest_0) (s_expr (e_call no_need_prime G_need_prime.2 (hr.mono (by decide)) hgd (by rfl) G_need_prime.1 F_need_prime.kp (bd_need_prime F_need_prime) (a_cons (e_var 0) a_nil)))
      (ss_one (s_ret (e_call no_fits_count G_fits_count.2 (hr.mono (by decide)) hgd (by rfl) G_fits_count.1 F_fits_count.kp (bd_fits_count F_fits_count) (a_cons (e_var 1) (a_cons (e_var 0) a_nil))))))
theorem ok_two_squares {P : Program} {w : World} {K : PySem.W.Frag} {mg : Str → Option Value} {base : Heap} {M0 : List Addr} (c : C0 K mg M0) {a_need_prime : Addr} {fd_need_prime : FuncData} (F_need_prime : Fun K "need_prime" "need_prime" s_need_prime a_need_prime fd_need_prime) (G_need_prime : mg "need_prime" = some (.ref a_need_prime) ∧ FnG P w K mg base 3 a_need_prime fd_need_prime P_need_prime (spI K M0 1 D_need_prime)) {a_need_rest : Addr} {fd_need_rest : FuncData} (F_need_rest : Fun K "need_rest" "need_rest" s_need_rest a_need_rest fd_need_rest) (G_need_rest : mg "need_rest" = some (.ref a_need_rest) ∧ FnG P w K mg base 3 a_need_rest fd_need_rest P_need_rest (spI K M0 2 D_need_rest)) {a_root : Addr} {fd_root : FuncData} (F_root : Fun K "root" "root" s_root a_root fd_root) (G_root : mg "root" = some (.ref a_root) ∧ FnG P w K mg base 4 a_root fd_root P_root (spI K M0 2 D_root)) {a : Addr} {fd : FuncData} (F : Fun K "two_squares" "two_squares" s_two_squares a fd) : FnG P w K mg base 5 a fd P_two_squares (spI K M0 2 D_two_squares) :=
  fn_g F sc_two_squares fun cdv A outer s H hr hgd =>
    (ss_cons (s1 := B_two_squares_0) (s_expr (e_call no_need_prime G_need_prime.2 (hr.mono (by decide)) hgd (by rfl) G_need_prime.1 F_need_prime.kp (bd_need_prime F_need_prime) (a_cons (e_var 0) a_nil)))
      (ss_cons (s1 := B_two_squares_1) (s_expr (e_call no_need_rest G_need_rest.2 (hr.mono (by decide)) hgd (by rfl) G_need_rest.1 F_need_rest.kp (bd_need_rest F_need_rest) (a_cons (e_var 0) (a_cons (e_var 1) a_nil))))
      (ss_cons (s1 := B_two_squares_2) (s_set 2 sc_two_squares.nd (by rfl) (.inl rfl) e_int)
      (ss_cons (s1 := B_two_squares_3) (s_while 1000 PassesOwn.never (t_cmp k_is (e_call no_root G_root.2 (hr.mono (by decide)) hgd (by rfl) G_root.1 F_root.kp (bd_root F_root) (a_cons (e_var 0) (a_cons (e_mod (e_sub (e_var 1) (e_mul (e_var 2) (e_var 2))) (e_var 0)) a_nil))) e_non (nomark _)) (ss_one (s_augAdd 2 sc_two_squares.nd (by rfl) (.inl rfl) e_int)))
      (ss_one (s_ret (e_tup (a_cons (e_var 2) (a_cons (e_call no_root G_root.2 (hr.mono (by decide)) hgd (by rfl) G_root.1 F_root.kp (bd_root F_root) (a_cons (e_var 0) (a_cons (e_mod (e_sub (e_var 1) (e_mul (e_var 2) (e_var 2))) (e_var 0)) a_nil))) a_nil)))))))))
theorem ok_inverse {P : Program} {w : World} {K : PySem.W.Frag} {mg : Str → Option Value} {base : Heap} {M0 : List Addr} (c : C0 K mg M0)  {a : Addr} {fd : FuncData} (F : Fun K "inverse" "inverse" s_inverse a fd) : FnG P w K mg base 1 a fd P_inverse (spI K M0 2 D_inverse) :=
  fn_g F sc_inverse fun cdv A outer s H hr hgd =>
    (ss_cons (s1 := B_inverse_0) (s_set 2 sc_inverse.nd (by rfl) (.inl rfl) e_int)
      (ss_cons (s1 := B_inverse_1) (s_for PassesOwn.never (by rfl) (i_rng1 (by rfl) c.z_range (a_cons (e_sub (e_var 0) e_int) a_nil)) (g_nm 3 sc_inverse.nd (by rfl) (.inl rfl)) (ss_one (s_set 2 sc_inverse.nd (by rfl) (.inl rfl) (e_mod (e_mul (e_var 2) (e_var 1)) (e_var 0)))))
      (ss_one (s_ret (e_var 2)))))
theorem ok_undone_rest {P : Program} {w : World} {K : PySem.W.Frag} {mg : Str → Option Value} {base : Heap} {M0 : List Addr} (c : C0 K mg M0) {a_need_prime : Addr} {fd_need_prime : FuncData} (F_need_prime : Fun K "need_prime" "need_prime" s_need_prime a_need_prime fd_need_prime) (G_need_prime : mg "need_prime" = some (.ref a_need_prime) ∧ FnG P w K mg base 3 a_need_prime fd_need_prime P_need_prime (spI K M0 1 D_need_prime)) {a_need_rest : Addr} {fd_need_rest : FuncData} (F_need_rest : Fun K "need_rest" "need_rest" s_need_rest a_need_rest fd_need_rest) (G_need_rest : mg "need_rest" = some (.ref a_need_rest) ∧ FnG P w K mg base 3 a_need_rest fd_need_rest P_need_rest (spI K M0 2 D_need_rest)) {a_inverse : Addr} {fd_inverse : FuncData} (F_inverse : Fun K "inverse" "inverse" s_inverse a_inverse fd_inverse) (G_inverse : mg "inverse" = some (.ref a_inverse) ∧ FnG P w K mg base 1 a_inverse fd_inverse P_inverse (spI K M0 2 D_inverse)) {a : Addr} {fd : FuncData} (F : Fun K "undone_rest" "undone_rest" s_undone_rest a fd) : FnG P w K mg base 4 a fd P_undone_rest (spI K M0 2 D_undone_rest) :=
  fn_g F sc_undone_rest fun cdv A outer s H hr hgd =>
    (ss_cons (s1 := B_undone_rest_0) (s_expr (e_call no_need_prime G_need_prime.2 (hr.mono (by decide)) hgd (by rfl) G_need_prime.1 F_need_prime.kp (bd_need_prime F_need_prime) (a_cons (e_var 0) a_nil)))
      (ss_cons (s1 := B_undone_rest_1) (s_expr (e_call no_need_rest G_need_rest.2 (hr.mono (by decide)) hgd (by rfl) G_need_rest.1 F_need_rest.kp (bd_need_rest F_need_rest) (a_cons (e_var 0) (a_cons (e_var 1) a_nil))))
      (ss_cons (s1 := B_undone_rest_2) (s_if (t_cmp (k_eq hr) (e_var 1) e_int (nomark _)) (ss_one s_never) ss_nil)
      (ss_one (s_ret (e_call no_inverse G_inverse.2 (hr.mono (by decide)) hgd (by rfl) G_inverse.1 F_inverse.kp (bd_inverse F_inverse) (a_cons (e_var 0) (a_cons (e_var 1) a_nil))))))))
theorem ok__law_prime_right {P : Program} {w : World} {K : PySem.W.Frag} {mg : Str → Option Value} {base : Heap} {M0 : List Addr} (c : C0 K mg M0) {a_root : Addr} {fd_root : FuncData} (F_root : Fun K "root" "root" s_root a_root fd_root) (G_root : mg "root" = some (.ref a_root) ∧ FnG P w K mg base 4 a_root fd_root P_root (spI K M0 2 D_root)) {a_least_odd : Addr} {fd_least_odd : FuncData} (F_least_odd : Fun K "least_odd" "least_odd" s_least_odd a_least_odd fd_least_odd) (G_least_odd : mg "least_odd" = some (.ref a_least_odd) ∧ FnG P w K mg base 5 a_least_odd fd_least_odd P_least_odd (spI K M0 1 D_least_odd)) {a_sign_rest : Addr} {fd_sign_rest : FuncData} (F_sign_rest : Fun K "sign_rest" "sign_rest" s_sign_rest a_sign_rest fd_sign_rest) (G_sign_rest : mg "sign_rest" = some (.ref a_sign_rest) ∧ FnG P w K mg base 5 a_sign_rest fd_sign_rest P_sign_rest (spI K M0 2 D_sign_rest)) {a_is_rest : Addr} {fd_is_rest : FuncData} (F_is_rest : Fun K "is_rest" "is_rest" s_is_rest a_is_rest fd_is_rest) (G_is_rest : mg "is_rest" = some (.ref a_is_rest) ∧ FnG P w K mg base 4 a_is_rest fd_is_rest P_is_rest (spI K M0 2 D_is_rest)) {a_two_squares : Addr} {fd_two_squares : FuncData} (F_two_squares : Fun K "two_squares" "two_squares" s_two_squares a_two_squares fd_two_squares) (G_two_squares : mg "two_squares" = some (.ref a_two_squares) ∧ FnG P w K mg base 5 a_two_squares fd_two_squares P_two_squares (spI K M0 2 D_two_squares)) {a_undone_rest : Addr} {fd_undone_rest : FuncData} (F_undone_rest : Fun K "undone_rest" "undone_rest" s_undone_rest a_undone_rest fd_undone_rest) (G_undone_rest : mg "undone_rest" = some (.ref a_undone_rest) ∧ FnG P w K mg base 4 a_undone_rest fd_undone_rest P_undone_rest (spI K M0 2 D_undone_rest)) {a : Addr} {fd : FuncData} (F : Fun K "_law_prime_right" "_law_prime_right" s__law_prime_right a fd) : FnG P w K mg base 6 a fd P__law_prime_right (spI K M0 1 D__law_prime_right) :=
  fn_g F sc__law_prime_right fun cdv A outer s H hr hgd =>
    (ss_cons (s1 := B__law_prime_right_0) (s_set 1 sc__law_prime_right.nd (by rfl) (.inr rfl) (e_lc (own := [("_law_one", 7)]) (by rfl) sc__law_prime_right.nd (i_rng1 (by rfl) c.z_range (a_cons (e_var 0) a_nil)) (by exact blkOk_by (N := N__law_prime_right) (sc := defScope s__law_prime_right) (by decide +kernel)) (by decide) (fun _ _ _ _ _ => (g_nm 7 sc__law_prime_right.nd (by rfl) (by first | exact .inl rfl | exact .inr rfl))) (fun _ _ _ _ _ => ts_nil) (fun _ _ _ _ _ => (e_mod (e_bty call_int1 int1_I (by rfl) c.z_int (by decide +kernel) (a_cons (e_mul (e_var 7) (e_var 7)) a_nil)) (e_var 0)))))
      (ss_cons (s1 := B__law_prime_right_1) (s_setLc (own := [("_law_one", 7)]) (by rfl) sc__law_prime_right.nd (by rfl) (by rfl) (sw_true rfl rfl rfl (by decide +kernel)) (i_rng1 (by rfl) c.z_range (a_cons (e_var 0) a_nil)) (by exact blkOk_by (N := N__law_prime_right) (sc := defScope s__law_prime_right) (by decide +kernel)) (by decide) (fun _ _ _ _ _ => (g_nm 7 sc__law_prime_right.nd (by rfl) (by first | exact .inl rfl | exact .inr rfl))) (fun _ _ _ _ _ => (ts_one (t_cmp k_notIn (e_var 7) (e_var 1) (by with_unfolding_all rfl)))) (fun _ _ _ _ _ => (e_var 7)))
      (ss_cons (s1 := B__law_prime_right_2) (s_if (t_w (w_or (t_cmp (k_ne hr) (e_blt (call_repr hgd hr.units) repr_I (by rfl) c.z_repr (by decide +kernel) (a_cons (e_call no_least_odd G_least_odd.2 (hr.mono (by decide)) hgd (by rfl) G_least_odd.1 F_least_odd.kp (bd_least_odd F_least_odd) (a_cons (e_var 0) a_nil)) a_nil)) (e_blt (call_repr hgd hr.units) repr_I (by rfl) c.z_repr (by decide +kernel) (a_cons (e_ix (e_var 2) e_int (fun _ _ => rfl)) a_nil)) (nomark _)) (w_or (t_cmp (k_ne hr) (e_callK0 no_least_odd G_least_odd.2 (hr.mono (by decide)) hgd (by rfl) G_least_odd.1 F_least_odd.kp (kb_least_odd_0_0 F_least_odd) (k_cons (e_var 0) k_nil)) (e_ix (e_var 2) e_int (fun _ _ => rfl)) (nomark _)) (w_or1 (t_cmp (k_ne hr) (e_blt call_len len_I (by rfl) c.z_len (by decide +kernel) (a_cons (e_var 2) a_nil)) (e_div (e_sub (e_var 0) e_int) e_int) (nomark _)))))) (ss_one (s_ret e_bl)) ss_nil)
      (ss_cons (s1 := B__law_prime_right_3) (s_for PassesOwn.never (by rfl) (i_rng1 (by rfl) c.z_range (a_cons (e_var 0) a_nil)) (g_nm 3 sc__law_prime_right.nd (by rfl) (.inr rfl)) (ss_cons (s_set 4 sc__law_prime_right.nd (by rfl) (.inl rfl) (e_if (t_cmp (k_eq hr) (e_var 3) e_int (nomark _)) e_int (e_if (t_cmp k_in (e_var 3) (e_var 1) (by with_unfolding_all rfl)) e_int (e_neg e_int))))
      (ss_cons (s_set 5 sc__law_prime_right.nd (by rfl) (.inl rfl) (e_if (t_cmp k_in (e_var 3) (e_var 1) (by with_unfolding_all rfl)) (e_index (e_var 1) (a_cons (e_var 3) a_nil)) e_non))
      (ss_cons (s_if (t_w (w_or (t_cmp (k_ne hr) (e_blt (call_repr hgd hr.units) repr_I (by rfl) c.z_repr (by decide +kernel) (a_cons (e_lst (a_cons (e_call no_sign_rest G_sign_rest.2 (hr.mono (by decide)) hgd (by rfl) G_sign_rest.1 F_sign_rest.kp (bd_sign_rest F_sign_rest) (a_cons (e_var 0) (a_cons (e_var 3) a_nil))) (a_cons (e_call no_root G_root.2 (hr.mono (by decide)) hgd (by rfl) G_root.1 F_root.kp (bd_root F_root) (a_cons (e_var 0) (a_cons (e_var 3) a_nil))) a_nil))) a_nil)) (e_blt (call_repr hgd hr.units) repr_I (by rfl) c.z_repr (by decide +kernel) (a_cons (e_lst (a_cons (e_var 4) (a_cons (e_var 5) a_nil))) a_nil)) (nomark _)) (w_or1 (t_cmp k_isN (e_call no_is_rest G_is_rest.2 (hr.mono (by decide)) hgd (by rfl) G_is_rest.1 F_is_rest.kp (bd_is_rest F_is_rest) (a_cons (e_var 0) (a_cons (e_var 3) a_nil))) e_bl (nomark _))))) (ss_one (s_ret e_bl)) ss_nil)
      (ss_cons (s_set 6 sc__law_prime_right.nd (by rfl) (.inl rfl) (e_lst a_nil))
      (ss_cons (s_for PassesOwn.never (by rfl) (i_rng1 (by rfl) c.z_range (a_cons (e_var 0) a_nil)) (g_nm 7 sc__law_prime_right.nd (by rfl) (.inr rfl)) (ss_one (s_expr (e_extend (e_var 6) (a_cons (e_lc (own := [("_law_two", 9)]) (by rfl) sc__law_prime_right.nd (i_rng1 (by rfl) c.z_range (a_cons (e_var 0) a_nil)) (by exact blkOk_by (N := N__law_prime_right) (sc := defScope s__law_prime_right) (by decide +kernel)) (by decide) (fun _ _ _ _ _ => (g_nm 9 sc__law_prime_right.nd (by rfl) (by first | exact .inl rfl | exact .inr rfl))) (fun _ _ _ _ _ => (ts_one (t_cmp (k_eq hr) (e_mod (e_bty call_int1 int1_I (by rfl) c.z_int (by decide +kernel) (a_cons (e_add (e_mul (e_var 7) (e_var 7)) (e_mul (e_var 9) (e_var 9))) a_nil)) (e_var 0)) (e_var 3) (nomark _)))) (fun _ _ _ _ _ => (e_tup (a_cons (e_var 7) (a_cons (e_var 9) a_nil))))) a_nil)))))
      (ss_cons (s_if (t_w (w_or (t_cmp (k_ne hr) (e_blt (call_repr hgd hr.units) repr_I (by rfl) c.z_repr (by decide +kernel) (a_cons (e_call no_two_squares G_two_squares.2 (hr.mono (by decide)) hgd (by rfl) G_two_squares.1 F_two_squares.kp (bd_two_squares F_two_squares) (a_cons (e_var 0) (a_cons (e_var 3) a_nil))) a_nil)) (e_blt (call_repr hgd hr.units) repr_I (by rfl) c.z_repr (by decide +kernel) (a_cons (e_ix (e_var 6) e_int (fun _ _ => rfl)) a_nil)) (nomark _)) (w_or1 (t_cmp (k_ne hr) (e_callK0 no_two_squares G_two_squares.2 (hr.mono (by decide)) hgd (by rfl) G_two_squares.1 F_two_squares.kp (kb_two_squares_0_1_0 F_two_squares) (k_cons (e_var 3) (k_cons (e_var 0) k_nil))) (e_ix (e_var 6) e_int (fun _ _ => rfl)) (nomark _))))) (ss_one (s_ret e_bl)) ss_nil)
      (ss_cons (s_setLc (own := [("_law_one", 7)]) (by rfl) sc__law_prime_right.nd (by rfl) (by rfl) (sw_true rfl rfl rfl (by decide +kernel)) (i_rng1 (by rfl) c.z_range (a_cons (e_var 0) a_nil)) (by exact blkOk_by (N := N__law_prime_right) (sc := defScope s__law_prime_right) (by decide +kernel)) (by decide) (fun _ _ _ _ _ => (g_nm 7 sc__law_prime_right.nd (by rfl) (by first | exact .inl rfl | exact .inr rfl))) (fun _ _ _ _ _ => (ts_one (t_cmp (k_eq hr) (e_mod (e_bty call_int1 int1_I (by rfl) c.z_int (by decide +kernel) (a_cons (e_mul (e_var 7) (e_var 3)) a_nil)) (e_var 0)) e_int (nomark _)))) (fun _ _ _ _ _ => (e_var 7)))
      (ss_one (s_if (t_w (w_and (t_cmp k_gt (e_var 3) e_int (nomark _)) (w_and1 (t_cmp (k_ne hr) (e_blt (call_repr hgd hr.units) repr_I (by rfl) c.z_repr (by decide +kernel) (a_cons (e_lst (a_cons (e_call no_undone_rest G_undone_rest.2 (hr.mono (by decide)) hgd (by rfl) G_undone_rest.1 F_undone_rest.kp (bd_undone_rest F_undone_rest) (a_cons (e_var 0) (a_cons (e_var 3) a_nil))) (a_cons (e_callK0 no_undone_rest G_undone_rest.2 (hr.mono (by decide)) hgd (by rfl) G_undone_rest.1 F_undone_rest.kp (kb_undone_rest_0_1_0 F_undone_rest) (k_cons (e_var 3) (k_cons (e_var 0) k_nil))) a_nil))) a_nil)) (e_blt (call_repr hgd hr.units) repr_I (by rfl) c.z_repr (by decide +kernel) (a_cons (e_mul (e_var 8) e_int) a_nil)) (nomark _))))) (ss_one (s_ret e_bl)) ss_nil))))))))))
      (ss_one (s_ret e_bl))))))
theorem ok__law_draw {P : Program} {w : World} {K : PySem.W.Frag} {mg : Str → Option Value} {base : Heap} {M0 : List Addr} (c : C0 K mg M0)  {a : Addr} {fd : FuncData} (F : Fun K "_law_draw" "_law_draw" s__law_draw a fd) : FnG P w K mg base 1 a fd P__law_draw (spI K M0 2 D__law_draw) :=
  fn_g F sc__law_draw fun cdv A outer s H hr hgd =>
    (ss_cons (s1 := B__law_draw_0) (s_if (t_cmp k_gt (e_ix (e_var 0) e_int (fun _ _ => rfl)) e_int (nomark _)) (ss_cons (s_asgG (e_blt call_divmod divmod_I (by rfl) c.z_divmod (by decide +kernel) (a_cons (e_ix (e_var 0) e_int (fun _ _ => rfl)) (a_cons (e_var 1) a_nil))) (gg_pair (by rfl) (gg_sub (e_var 0) e_int) (gg_nm 2 sc__law_draw.nd (by rfl) (.inl rfl))))
      (ss_one (s_ret (e_var 2)))) ss_nil)
      (ss_cons (s1 := B__law_draw_1) (s_asgG (e_mod (e_bty call_int1 int1_I (by rfl) c.z_int (by decide +kernel) (a_cons (e_add (e_mul (e_ix (e_var 0) e_int (fun _ _ => rfl)) e_int) e_int) a_nil)) e_int) (gg_sub (e_var 0) e_int))
      (ss_one (s_ret (e_mod (e_bty call_int1 int1_I (by rfl) c.z_int (by decide +kernel) (a_cons (e_div (e_mod (e_bty call_int1 int1_I (by rfl) c.z_int (by decide +kernel) (a_cons (e_mul (e_ix (e_var 0) e_int (fun _ _ => rfl)) (e_ix (e_var 0) e_int (fun _ _ => rfl))) a_nil)) e_int) e_int) a_nil)) (e_var 1))))))
theorem ok__law_pick {P : Program} {w : World} {K : PySem.W.Frag} {mg : Str → Option Value} {base : Heap} {M0 : List Addr} (c : C0 K mg M0) {a__law_draw : Addr} {fd__law_draw : FuncData} (F__law_draw : Fun K "_law_draw" "_law_draw" s__law_draw a__law_draw fd__law_draw) (G__law_draw : mg "_law_draw" = some (.ref a__law_draw) ∧ FnG P w K mg base 1 a__law_draw fd__law_draw P__law_draw (spI K M0 2 D__law_draw)) {a : Addr} {fd : FuncData} (F : Fun K "_law_pick" "_law_pick" s__law_pick a fd) : FnG P w K mg base 2 a fd P__law_pick (spI K M0 2 D__law_pick) :=
  fn_g F sc__law_pick fun cdv A outer s H hr hgd =>
    (ss_one (s_ret (e_ix (e_var 1) (e_call no__law_draw G__law_draw.2 (hr.mono (by decide)) hgd (by rfl) G__law_draw.1 F__law_draw.kp (bd__law_draw F__law_draw) (a_cons (e_var 0) (a_cons (e_blt call_len len_I (by rfl) c.z_len (by decide +kernel) (a_cons (e_var 1) a_nil)) a_nil))) (fun _ _ => rfl))))
theorem ok__law_right {P : Program} {w : World} {K : PySem.W.Frag} {mg : Str → Option Value} {base : Heap} {M0 : List Addr} (c : C0 K mg M0) {a_is_prime : Addr} {fd_is_prime : FuncData} (F_is_prime : Fun K "is_prime" "is_prime" s_is_prime a_is_prime fd_is_prime) (G_is_prime : mg "is_prime" = some (.ref a_is_prime) ∧ FnG P w K mg base 3 a_is_prime fd_is_prime P_is_prime (spI K M0 1 D_is_prime)) {a_root : Addr} {fd_root : FuncData} (F_root : Fun K "root" "root" s_root a_root fd_root) (G_root : mg "root" = some (.ref a_root) ∧ FnG P w K mg base 4 a_root fd_root P_root (spI K M0 2 D_root)) {a_least_odd : Addr} {fd_least_odd : FuncData} (F_least_odd : Fun K "least_odd" "least_odd" s_least_odd a_least_odd fd_least_odd) (G_least_odd : mg "least_odd" = some (.ref a_least_odd) ∧ FnG P w K mg base 5 a_least_odd fd_least_odd P_least_odd (spI K M0 1 D_least_odd)) {a_sign_rest : Addr} {fd_sign_rest : FuncData} (F_sign_rest : Fun K "sign_rest" "sign_rest" s_sign_rest a_sign_rest fd_sign_rest) (G_sign_rest : mg "sign_rest" = some (.ref a_sign_rest) ∧ FnG P w K mg base 5 a_sign_rest fd_sign_rest P_sign_rest (spI K M0 2 D_sign_rest)) {a_two_squares : Addr} {fd_two_squares : FuncData} (F_two_squares : Fun K "two_squares" "two_squares" s_two_squares a_two_squares fd_two_squares) (G_two_squares : mg "two_squares" = some (.ref a_two_squares) ∧ FnG P w K mg base 5 a_two_squares fd_two_squares P_two_squares (spI K M0 2 D_two_squares)) {a_undone_rest : Addr} {fd_undone_rest : FuncData} (F_undone_rest : Fun K "undone_rest" "undone_rest" s_undone_rest a_undone_rest fd_undone_rest) (G_undone_rest : mg "undone_rest" = some (.ref a_undone_rest) ∧ FnG P w K mg base 4 a_undone_rest fd_undone_rest P_undone_rest (spI K M0 2 D_undone_rest)) {a__law_prime_right : Addr} {fd__law_prime_right : FuncData} (F__law_prime_right : Fun K "_law_prime_right" "_law_prime_right" s__law_prime_right a__law_prime_right fd__law_prime_right) (G__law_prime_right : mg "_law_prime_right" = some (.ref a__law_prime_right) ∧ FnG P w K mg base 6 a__law_prime_right fd__law_prime_right P__law_prime_right (spI K M0 1 D__law_prime_right)) {a__law_draw : Addr} {fd__law_draw : FuncData} (F__law_draw : Fun K "_law_draw" "_law_draw" s__law_draw a__law_draw fd__law_draw) (G__law_draw : mg "_law_draw" = some (.ref a__law_draw) ∧ FnG P w K mg base 1 a__law_draw fd__law_draw P__law_draw (spI K M0 2 D__law_draw)) {a__law_pick : Addr} {fd__law_pick : FuncData} (F__law_pick : Fun K "_law_pick" "_law_pick" s__law_pick a__law_pick fd__law_pick) (G__law_pick : mg "_law_pick" = some (.ref a__law_pick) ∧ FnG P w K mg base 2 a__law_pick fd__law_pick P__law_pick (spI K M0 2 D__law_pick)) {a : Addr} {fd : FuncData} (F : Fun K "_law_right" "_law_right" s__law_right a fd) : FnG P w K mg base 7 a fd P__law_right (spI K M0 1 D__law_right) :=
  fn_g F sc__law_right fun cdv A outer s H hr hgd =>
    (ss_cons (s1 := B__law_right_0) (s_for PassesOwn.never (by rfl) (i_seq (e_lst (a_cons e_int (a_cons e_int (a_cons e_int (a_cons e_int (a_cons e_int a_nil))))))) (g_nm 1 sc__law_right.nd (by rfl) (.inl rfl)) (ss_one (s_if (t_w (w_or (t_cmp k_isN (e_call no_is_prime G_is_prime.2 (hr.mono (by decide)) hgd (by rfl) G_is_prime.1 F_is_prime.kp (bd_is_prime F_is_prime) (a_cons (e_var 1) a_nil)) e_bl (nomark _)) (w_or1 (t_not (t_val (e_call no__law_prime_right G__law_prime_right.2 (hr.mono (by decide)) hgd (by rfl) G__law_prime_right.1 F__law_prime_right.kp (bd__law_prime_right F__law_prime_right) (a_cons (e_var 1) a_nil))))))) (ss_one (s_ret e_bl)) ss_nil)))
      (ss_cons (s1 := B__law_right_1) (s_set 1 sc__law_right.nd (by rfl) (.inl rfl) (e_call no__law_pick G__law_pick.2 (hr.mono (by decide)) hgd (by rfl) G__law_pick.1 F__law_pick.kp (bd__law_pick F__law_pick) (a_cons (e_var 0) (a_cons (e_lst (a_cons e_int (a_cons e_int (a_cons e_int (a_cons e_int (a_cons e_int a_nil)))))) a_nil))))
      (ss_cons (s1 := B__law_right_2) (s_par 2 3 (by rfl) sc__law_right.nd (by rfl) (by rfl) (by decide) (by rfl) (by rfl) (a_cons (e_call no__law_draw G__law_draw.2 (hr.mono (by decide)) hgd (by rfl) G__law_draw.1 F__law_draw.kp (bd__law_draw F__law_draw) (a_cons (e_var 0) (a_cons (e_var 1) a_nil))) (a_cons (e_call no__law_draw G__law_draw.2 (hr.mono (by decide)) hgd (by rfl) G__law_draw.1 F__law_draw.kp (bd__law_draw F__law_draw) (a_cons (e_var 0) (a_cons (e_var 1) a_nil))) a_nil)))
      (ss_cons (s1 := B__law_right_3) (s_set 4 sc__law_right.nd (by rfl) (.inl rfl) (e_mod (e_bty call_int1 int1_I (by rfl) c.z_int (by decide +kernel) (a_cons (e_mul (e_var 2) (e_var 3)) a_nil)) (e_var 1)))
      (ss_cons (s1 := B__law_right_4) (s_if (t_cmp (k_ne hr) (e_call no_sign_rest G_sign_rest.2 (hr.mono (by decide)) hgd (by rfl) G_sign_rest.1 F_sign_rest.kp (bd_sign_rest F_sign_rest) (a_cons (e_var 1) (a_cons (e_var 4) a_nil))) (e_mul (e_call no_sign_rest G_sign_rest.2 (hr.mono (by decide)) hgd (by rfl) G_sign_rest.1 F_sign_rest.kp (bd_sign_rest F_sign_rest) (a_cons (e_var 1) (a_cons (e_var 2) a_nil))) (e_callK0 no_sign_rest G_sign_rest.2 (hr.mono (by decide)) hgd (by rfl) G_sign_rest.1 F_sign_rest.kp (kb_sign_rest_0_1_0 F_sign_rest) (k_cons (e_var 3) (k_cons (e_var 1) k_nil)))) (nomark _)) (ss_one (s_ret e_bl)) ss_nil)
      (ss_cons (s1 := B__law_right_5) (s_if (t_w (w_and (t_cmp k_gt (e_var 4) e_int (nomark _)) (w_and1 (t_cmp (k_ne hr) (e_mod (e_bty call_int1 int1_I (by rfl) c.z_int (by decide +kernel) (a_cons (e_mul (e_call no_undone_rest G_undone_rest.2 (hr.mono (by decide)) hgd (by rfl) G_undone_rest.1 F_undone_rest.kp (bd_undone_rest F_undone_rest) (a_cons (e_var 1) (a_cons (e_var 2) a_nil))) (e_call no_undone_rest G_undone_rest.2 (hr.mono (by decide)) hgd (by rfl) G_undone_rest.1 F_undone_rest.kp (bd_undone_rest F_undone_rest) (a_cons (e_var 1) (a_cons (e_var 3) a_nil)))) a_nil)) (e_var 1)) (e_call no_undone_rest G_undone_rest.2 (hr.mono (by decide)) hgd (by rfl) G_undone_rest.1 F_undone_rest.kp (bd_undone_rest F_undone_rest) (a_cons (e_var 1) (a_cons (e_var 4) a_nil))) (nomark _))))) (ss_one (s_ret e_bl)) ss_nil)
      (ss_one (s_ret (e_cmp (k_eq hr) (e_lst (a_cons (e_call no_undone_rest G_undone_rest.2 (hr.mono (by decide)) hgd (by rfl) G_undone_rest.1 F_undone_rest.kp (bd_undone_rest F_undone_rest) (a_cons e_int (a_cons e_int a_nil))) (a_cons (e_call no_sign_rest G_sign_rest.2 (hr.mono (by decide)) hgd (by rfl) G_sign_rest.1 F_sign_rest.kp (bd_sign_rest F_sign_rest) (a_cons e_int (a_cons e_int a_nil))) (a_cons (e_call no_root G_root.2 (hr.mono (by decide)) hgd (by rfl) G_root.1 F_root.kp (bd_root F_root) (a_cons e_int (a_cons e_int a_nil))) (a_cons (e_call no_root G_root.2 (hr.mono (by decide)) hgd (by rfl) G_root.1 F_root.kp (bd_root F_root) (a_cons e_int (a_cons e_int a_nil))) (a_cons (e_call no_least_odd G_least_odd.2 (hr.mono (by decide)) hgd (by rfl) G_least_odd.1 F_least_odd.kp (bd_least_odd F_least_odd) (a_cons e_int a_nil)) (a_cons (e_call no_two_squares G_two_squares.2 (hr.mono (by decide)) hgd (by rfl) G_two_squares.1 F_two_squares.kp (bd_two_squares F_two_squares) (a_cons e_int (a_cons e_int a_nil))) a_nil))))))) (e_lst (a_cons e_int (a_cons (e_neg e_int) (a_cons e_int (a_cons e_non (a_cons e_int (a_cons (e_tup (a_cons e_int (a_cons e_int a_nil))) a_nil))))))) (nomark _))))))))))
theorem ok__law_pot {P : Program} {w : World} {K : PySem.W.Frag} {mg : Str → Option Value} {base : Heap} {M0 : List Addr} (c : C0 K mg M0)  {a : Addr} {fd : FuncData} (F : Fun K "_law_pot" "_law_pot" s__law_pot a fd) : FnG P w K mg base 1 a fd P__law_pot (spI K M0 2 D__law_pot) :=
  fn_g F sc__law_pot fun cdv A outer s H hr hgd =>
    (ss_cons (s1 := B__law_pot_0) (s_set 2 sc__law_pot.nd (by rfl) (.inl rfl) (e_add (e_mul e_int (e_var 1)) e_int))
      (ss_cons (s1 := B__law_pot_1) (s_if (t_cmp k_lt (e_var 1) (e_blt call_len len_I (by rfl) c.z_len (by decide +kernel) (a_cons (e_var 0) a_nil)) (nomark _)) (ss_one (s_set 2 sc__law_pot.nd (by rfl) (.inl rfl) (e_blt call_abs abs_I (by rfl) c.z_abs (by decide +kernel) (a_cons (e_ix (e_var 0) (e_var 1) (fun _ _ => rfl)) a_nil)))) ss_nil)
      (ss_one (s_ret (e_lst (a_cons (e_blt (call_max2 (by rfl)) max2_I (by rfl) c.z_max (by decide +kernel) (a_cons e_int (a_cons (e_sub (e_var 2) (e_pow e_int e_int)) a_nil))) (a_cons (e_add (e_mod (e_mul (e_bty call_int1 int1_I (by rfl) c.z_int (by decide +kernel) (a_cons (e_add (e_mod (e_bty call_int1 int1_I (by rfl) c.z_int (by decide +kernel) (a_cons (e_var 2) a_nil)) e_int) e_int) a_nil)) (e_pow (e_add (e_mul e_int (e_var 1)) e_int) e_int)) e_int) e_int) a_nil)))))))
theorem ok_law {P : Program} {w : World} {K : PySem.W.Frag} {mg : Str → Option Value} {base : Heap} {M0 : List Addr} (c : C0 K mg M0) {a__law_right : Addr} {fd__law_right : FuncData} (F__law_right : Fun K "_law_right" "_law_right" s__law_right a__law_right fd__law_right) (G__law_right : mg "_law_right" = some (.ref a__law_right) ∧ FnG P w K mg base 7 a__law_right fd__law_right P__law_right (spI K M0 1 D__law_right)) {a__law_pot : Addr} {fd__law_pot : FuncData} (F__law_pot : Fun K "_law_pot" "_law_pot" s__law_pot a__law_pot fd__law_pot) (G__law_pot : mg "_law_pot" = some (.ref a__law_pot) ∧ FnG P w K mg base 1 a__law_pot fd__law_pot P__law_pot (spI K M0 2 D__law_pot)) {a : Addr} {fd : FuncData} (F : Fun K "law" "law" s_law a fd) : FnG P w K mg base 8 a fd P_law (spI K M0 1 D_law) :=
  fn_g F sc_law fun cdv A outer s H hr hgd =>
    (ss_one (s_ret (e_call no__law_right G__law_right.2 (hr.mono (by decide)) hgd (by rfl) G__law_right.1 F__law_right.kp (bd__law_right F__law_right) (a_cons (e_call no__law_pot G__law_pot.2 (hr.mono (by decide)) hgd (by rfl) G__law_pot.1 F__law_pot.kp (bd__law_pot F__law_pot) (a_cons (e_var 0) (a_cons e_int a_nil))) a_nil))))
theorem ok_all {P : Program} {w : World} {K : PySem.W.Frag} {mg : Str → Option Value} {M0 : List Addr} (c : Facts K mg M0) : ∃ a fd, Fun K "law" "law" s_law a fd ∧ mg "law" = some (.ref a) ∧ ∀ base : Heap, FnG P w K mg base 8 a fd P_law (spI K M0 1 D_law) := by
  obtain ⟨q_PRIMES, m_PRIMES, i_PRIMES⟩ := c.ex_PRIMES
  obtain ⟨a_fits_integer, fd_fits_integer, F_fits_integer, m_ffits_integer⟩ := c.f_fits_integer
  obtain ⟨a_fits_prime, fd_fits_prime, F_fits_prime, m_ffits_prime⟩ := c.f_fits_prime
  obtain ⟨a_is_prime, fd_is_prime, F_is_prime, m_fis_prime⟩ := c.f_is_prime
  obtain ⟨a_need_prime, fd_need_prime, F_need_prime, m_fneed_prime⟩ := c.f_need_prime
  obtain ⟨a_fits_count, fd_fits_count, F_fits_count, m_ffits_count⟩ := c.f_fits_count
  obtain ⟨a_need_rest, fd_need_rest, F_need_rest, m_fneed_rest⟩ := c.f_need_rest
  obtain ⟨a_root, fd_root, F_root, m_froot⟩ := c.f_root
  obtain ⟨a_least_odd, fd_least_odd, F_least_odd, m_fleast_odd⟩ := c.f_least_odd
  obtain ⟨a_sign_rest, fd_sign_rest, F_sign_rest, m_fsign_rest⟩ := c.f_sign_rest
  obtain ⟨a_is_rest, fd_is_rest, F_is_rest, m_fis_rest⟩ := c.f_is_rest
  obtain ⟨a_two_squares, fd_two_squares, F_two_squares, m_ftwo_squares⟩ := c.f_two_squares
  obtain ⟨a_inverse, fd_inverse, F_inverse, m_finverse⟩ := c.f_inverse
  obtain ⟨a_undone_rest, fd_undone_rest, F_undone_rest, m_fundone_rest⟩ := c.f_undone_rest
  obtain ⟨a__law_prime_right, fd__law_prime_right, F__law_prime_right, m_f_law_prime_right⟩ := c.f__law_prime_right
  obtain ⟨a__law_draw, fd__law_draw, F__law_draw, m_f_law_draw⟩ := c.f__law_draw
  obtain ⟨a__law_pick, fd__law_pick, F__law_pick, m_f_law_pick⟩ := c.f__law_pick
  obtain ⟨a__law_right, fd__law_right, F__law_right, m_f_law_right⟩ := c.f__law_right
  obtain ⟨a__law_pot, fd__law_pot, F__law_pot, m_f_law_pot⟩ := c.f__law_pot
  obtain ⟨a_law, fd_law, F_law, m_flaw⟩ := c.f_law
  have cc : C0 K mg M0 := { a_PRIMES := q_PRIMES, z_abs := c.z_abs, z_bool := c.z_bool, z_divmod := c.z_divmod, z_int := c.z_int, z_isinstance := c.z_isinstance, z_len := c.z_len, z_max := c.z_max, z_range := c.z_range, z_repr := c.z_repr, m_PRIMES := m_PRIMES, i_PRIMES := i_PRIMES }
  refine ⟨a_law, fd_law, F_law, m_flaw, fun base => ?_⟩
  have G_fits_integer := ok_fits_integer (P := P) (w := w) (base := base) cc  F_fits_integer
  have G_fits_prime := ok_fits_prime (P := P) (w := w) (base := base) cc F_fits_integer ⟨m_ffits_integer, G_fits_integer⟩ F_fits_prime
  have G_is_prime := ok_is_prime (P := P) (w := w) (base := base) cc F_fits_prime ⟨m_ffits_prime, G_fits_prime⟩ F_is_prime
  have G_need_prime := ok_need_prime (P := P) (w := w) (base := base) cc F_fits_prime ⟨m_ffits_prime, G_fits_prime⟩ F_need_prime
  have G_fits_count := ok_fits_count (P := P) (w := w) (base := base) cc F_fits_integer ⟨m_ffits_integer, G_fits_integer⟩ F_fits_count
  have G_need_rest := ok_need_rest (P := P) (w := w) (base := base) cc F_fits_count ⟨m_ffits_count, G_fits_count⟩ F_need_rest
  have G_root := ok_root (P := P) (w := w) (base := base) cc F_need_prime ⟨m_fneed_prime, G_need_prime⟩ F_need_rest ⟨m_fneed_rest, G_need_rest⟩ F_root
  have G_least_odd := ok_least_odd (P := P) (w := w) (base := base) cc F_need_prime ⟨m_fneed_prime, G_need_prime⟩ F_root ⟨m_froot, G_root⟩ F_least_odd
  have G_sign_rest := ok_sign_rest (P := P) (w := w) (base := base) cc F_root ⟨m_froot, G_root⟩ F_sign_rest
  have G_is_rest := ok_is_rest (P := P) (w := w) (base := base) cc F_need_prime ⟨m_fneed_prime, G_need_prime⟩ F_fits_count ⟨m_ffits_count, G_fits_count⟩ F_is_rest
  have G_two_squares := ok_two_squares (P := P) (w := w) (base := base) cc F_need_prime ⟨m_fneed_prime, G_need_prime⟩ F_need_rest ⟨m_fneed_rest, G_need_rest⟩ F_root ⟨m_froot, G_root⟩ F_two_squares
  have G_inverse := ok_inverse (P := P) (w := w) (base := base) cc  F_inverse
  have G_undone_rest := ok_undone_rest (P := P) (w := w) (base := base) cc F_need_prime ⟨m_fneed_prime, G_need_prime⟩ F_need_rest ⟨m_fneed_rest, G_need_rest⟩ F_inverse ⟨m_finverse, G_inverse⟩ F_undone_rest
  have G__law_prime_right := ok__law_prime_right (P := P) (w := w) (base := base) cc F_root ⟨m_froot, G_root⟩ F_least_odd ⟨m_fleast_odd, G_least_odd⟩ F_sign_rest ⟨m_fsign_rest, G_sign_rest⟩ F_is_rest ⟨m_fis_rest, G_is_rest⟩ F_two_squares ⟨m_ftwo_squares, G_two_squares⟩ F_undone_rest ⟨m_fundone_rest, G_undone_rest⟩ F__law_prime_right
  have G__law_draw := ok__law_draw (P := P) (w := w) (base := base) cc  F__law_draw
  have G__law_pick := ok__law_pick (P := P) (w := w) (base := base) cc F__law_draw ⟨m_f_law_draw, G__law_draw⟩ F__law_pick
  have G__law_right := ok__law_right (P := P) (w := w) (base := base) cc F_is_prime ⟨m_fis_prime, G_is_prime⟩ F_root ⟨m_froot, G_root⟩ F_least_odd ⟨m_fleast_odd, G_least_odd⟩ F_sign_rest ⟨m_fsign_rest, G_sign_rest⟩ F_two_squares ⟨m_ftwo_squares, G_two_squares⟩ F_undone_rest ⟨m_fundone_rest, G_undone_rest⟩ F__law_prime_right ⟨m_f_law_prime_right, G__law_prime_right⟩ F__law_draw ⟨m_f_law_draw, G__law_draw⟩ F__law_pick ⟨m_f_law_pick, G__law_pick⟩ F__law_right
  have G__law_pot := ok__law_pot (P := P) (w := w) (base := base) cc  F__law_pot
  have G_law := ok_law (P := P) (w := w) (base := base) cc F__law_right ⟨m_f_law_right, G__law_right⟩ F__law_pot ⟨m_f_law_pot, G__law_pot⟩ F_law
  exact G_law
theorem facts_mk {K : PySem.W.Frag} {h : Heap} {mg : Str → Option Value} (X : K.In h) (G : h.Ns mainGlobals mg)
    {f0 : Addr} {od0 an0 : Option Addr} {sl0 : Array (Option Value)} {oc0 kV0 dc0 pm0 cd0 ct0 : Value}
    (a0 : PySem.W.nsIn K mainGlobals "fits_integer" = some (some (.ref f0))) (l0 : K.lookup f0 = some ⟨oc0, od0, .func (PySem.W.fnOf "fits_integer" "fits_integer" (defArgs s_fits_integer) (defBody s_fits_integer) (defScope s_fits_integer) .none kV0 dc0 pm0 an0 cd0 ct0), sl0⟩) (c0 : PySem.W.codeIn K cd0 "fits_integer" = true) (k0 : PySem.W.keepIn K (.ref f0) = true)
    {f1 : Addr} {od1 an1 : Option Addr} {sl1 : Array (Option Value)} {oc1 kV1 dc1 pm1 cd1 ct1 : Value}
    (a1 : PySem.W.nsIn K mainGlobals "fits_prime" = some (some (.ref f1))) (l1 : K.lookup f1 = some ⟨oc1, od1, .func (PySem.W.fnOf "fits_prime" "fits_prime" (defArgs s_fits_prime) (defBody s_fits_prime) (defScope s_fits_prime) .none kV1 dc1 pm1 an1 cd1 ct1), sl1⟩) (c1 : PySem.W.codeIn K cd1 "fits_prime" = true) (k1 : PySem.W.keepIn K (.ref f1) = true)
    {f2 : Addr} {od2 an2 : Option Addr} {sl2 : Array (Option Value)} {oc2 kV2 dc2 pm2 cd2 ct2 : Value}
    (a2 : PySem.W.nsIn K mainGlobals "is_prime" = some (some (.ref f2))) (l2 : K.lookup f2 = some ⟨oc2, od2, .func (PySem.W.fnOf "is_prime" "is_prime" (defArgs s_is_prime) (defBody s_is_prime) (defScope s_is_prime) .none kV2 dc2 pm2 an2 cd2 ct2), sl2⟩) (c2 : PySem.W.codeIn K cd2 "is_prime" = true) (k2 : PySem.W.keepIn K (.ref f2) = true)
    {f3 : Addr} {od3 an3 : Option Addr} {sl3 : Array (Option Value)} {oc3 kV3 dc3 pm3 cd3 ct3 : Value}
    (a3 : PySem.W.nsIn K mainGlobals "need_prime" = some (some (.ref f3))) (l3 : K.lookup f3 = some ⟨oc3, od3, .func (PySem.W.fnOf "need_prime" "need_prime" (defArgs s_need_prime) (defBody s_need_prime) (defScope s_need_prime) .none kV3 dc3 pm3 an3 cd3 ct3), sl3⟩) (c3 : PySem.W.codeIn K cd3 "need_prime" = true) (k3 : PySem.W.keepIn K (.ref f3) = true)
    {f4 : Addr} {od4 an4 : Option Addr} {sl4 : Array (Option Value)} {oc4 kV4 dc4 pm4 cd4 ct4 : Value}
    (a4 : PySem.W.nsIn K mainGlobals "fits_count" = some (some (.ref f4))) (l4 : K.lookup f4 = some ⟨oc4, od4, .func (PySem.W.fnOf "fits_count" "fits_count" (defArgs s_fits_count) (defBody s_fits_count) (defScope s_fits_count) .none kV4 dc4 pm4 an4 cd4 ct4), sl4⟩) (c4 : PySem.W.codeIn K cd4 "fits_count" = true) (k4 : PySem.W.keepIn K (.ref f4) = true)
    {f5 : Addr} {od5 an5 : Option Addr} {sl5 : Array (Option Value)} {oc5 kV5 dc5 pm5 cd5 ct5 : Value}
    (a5 : PySem.W.nsIn K mainGlobals "need_rest" = some (some (.ref f5))) (l5 : K.lookup f5 = some ⟨oc5, od5, .func (PySem.W.fnOf "need_rest" "need_rest" (defArgs s_need_rest) (defBody s_need_rest) (defScope s_need_rest) .none kV5 dc5 pm5 an5 cd5 ct5), sl5⟩) (c5 : PySem.W.codeIn K cd5 "need_rest" = true) (k5 : PySem.W.keepIn K (.ref f5) = true)
    {f6 : Addr} {od6 an6 : Option Addr} {sl6 : Array (Option Value)} {oc6 kV6 dc6 pm6 cd6 ct6 : Value}
    (a6 : PySem.W.nsIn K mainGlobals "root" = some (some (.ref f6))) (l6 : K.lookup f6 = some ⟨oc6, od6, .func (PySem.W.fnOf "root" "root" (defArgs s_root) (defBody s_root) (defScope s_root) .none kV6 dc6 pm6 an6 cd6 ct6), sl6⟩) (c6 : PySem.W.codeIn K cd6 "root" = true) (k6 : PySem.W.keepIn K (.ref f6) = true)
    {f7 : Addr} {od7 an7 : Option Addr} {sl7 : Array (Option Value)} {oc7 kV7 dc7 pm7 cd7 ct7 : Value}
    (a7 : PySem.W.nsIn K mainGlobals "least_odd" = some (some (.ref f7))) (l7 : K.lookup f7 = some ⟨oc7, od7, .func (PySem.W.fnOf "least_odd" "least_odd" (defArgs s_least_odd) (defBody s_least_odd) (defScope s_least_odd) .none kV7 dc7 pm7 an7 cd7 ct7), sl7⟩) (c7 : PySem.W.codeIn K cd7 "least_odd" = true) (k7 : PySem.W.keepIn K (.ref f7) = true)
    {f8 : Addr} {od8 an8 : Option Addr} {sl8 : Array (Option Value)} {oc8 kV8 dc8 pm8 cd8 ct8 : Value}
    (a8 : PySem.W.nsIn K mainGlobals "sign_rest" = some (some (.ref f8))) (l8 : K.lookup f8 = some ⟨oc8, od8, .func (PySem.W.fnOf "sign_rest" "sign_rest" (defArgs s_sign_rest) (defBody s_sign_rest) (defScope s_sign_rest) .none kV8 dc8 pm8 an8 cd8 ct8), sl8⟩) (c8 : PySem.W.codeIn K cd8 "sign_rest" = true) (k8 : PySem.W.keepIn K (.ref f8) = true)
    {f9 : Addr} {od9 an9 : Option Addr} {sl9 : Array (Option Value)} {oc9 kV9 dc9 pm9 cd9 ct9 : Value}
    (a9 : PySem.W.nsIn K mainGlobals "is_rest" = some (some (.ref f9))) (l9 : K.lookup f9 = some ⟨oc9, od9, .func (PySem.W.fnOf "is_rest" "is_rest" (defArgs s_is_rest) (defBody s_is_rest) (defScope s_is_rest) .none kV9 dc9 pm9 an9 cd9 ct9), sl9⟩) (c9 : PySem.W.codeIn K cd9 "is_rest" = true) (k9 : PySem.W.keepIn K (.ref f9) = true)
    {f10 : Addr} {od10 an10 : Option Addr} {sl10 : Array (Option Value)} {oc10 kV10 dc10 pm10 cd10 ct10 : Value}
    (a10 : PySem.W.nsIn K mainGlobals "two_squares" = some (some (.ref f10))) (l10 : K.lookup f10 = some ⟨oc10, od10, .func (PySem.W.fnOf "two_squares" "two_squares" (defArgs s_two_squares) (defBody s_two_squares) (defScope s_two_squares) .none kV10 dc10 pm10 an10 cd10 ct10), sl10⟩) (c10 : PySem.W.codeIn K cd10 "two_squares" = true) (k10 : PySem.W.keepIn K (.ref f10) = true)
    {f11 : Addr} {od11 an11 : Option Addr} {sl11 : Array (Option Value)} {oc11 kV11 dc11 pm11 cd11 ct11 : Value}
    (a11 : PySem.W.nsIn K mainGlobals "inverse" = some (some (.ref f11))) (l11 : K.lookup f11 = some ⟨oc11, od11, .func (PySem.W.fnOf "inverse" "inverse" (defArgs s_inverse) (defBody s_inverse) (defScope s_inverse) .none kV11 dc11 pm11 an11 cd11 ct11), sl11⟩) (c11 : PySem.W.codeIn K cd11 "inverse" = true) (k11 : PySem.W.keepIn K (.ref f11) = true)
    {f12 : Addr} {od12 an12 : Option Addr} {sl12 : Array (Option Value)} {oc12 kV12 dc12 pm12 cd12 ct12 : Value}
    (a12 : PySem.W.nsIn K mainGlobals "undone_rest" = some (some (.ref f12))) (l12 : K.lookup f12 = some ⟨oc12, od12, .func (PySem.W.fnOf "undone_rest" "undone_rest" (defArgs s_undone_rest) (defBody s_undone_rest) (defScope s_undone_rest) .none kV12 dc12 pm12 an12 cd12 ct12), sl12⟩) (c12 : PySem.W.codeIn K cd12 "undone_rest" = true) (k12 : PySem.W.keepIn K (.ref f12) = true)
    {f13 : Addr} {od13 an13 : Option Addr} {sl13 : Array (Option Value)} {oc13 kV13 dc13 pm13 cd13 ct13 : Value}
    (a13 : PySem.W.nsIn K mainGlobals "_law_prime_right" = some (some (.ref f13))) (l13 : K.lookup f13 = some ⟨oc13, od13, .func (PySem.W.fnOf "_law_prime_right" "_law_prime_right" (defArgs s__law_prime_right) (defBody s__law_prime_right) (defScope s__law_prime_right) .none kV13 dc13 pm13 an13 cd13 ct13), sl13⟩) (c13 : PySem.W.codeIn K cd13 "_law_prime_right" = true) (k13 : PySem.W.keepIn K (.ref f13) = true)
    {f14 : Addr} {od14 an14 : Option Addr} {sl14 : Array (Option Value)} {oc14 kV14 dc14 pm14 cd14 ct14 : Value}
    (a14 : PySem.W.nsIn K mainGlobals "_law_draw" = some (some (.ref f14))) (l14 : K.lookup f14 = some ⟨oc14, od14, .func (PySem.W.fnOf "_law_draw" "_law_draw" (defArgs s__law_draw) (defBody s__law_draw) (defScope s__law_draw) .none kV14 dc14 pm14 an14 cd14 ct14), sl14⟩) (c14 : PySem.W.codeIn K cd14 "_law_draw" = true) (k14 : PySem.W.keepIn K (.ref f14) = true)
    {f15 : Addr} {od15 an15 : Option Addr} {sl15 : Array (Option Value)} {oc15 kV15 dc15 pm15 cd15 ct15 : Value}
    (a15 : PySem.W.nsIn K mainGlobals "_law_pick" = some (some (.ref f15))) (l15 : K.lookup f15 = some ⟨oc15, od15, .func (PySem.W.fnOf "_law_pick" "_law_pick" (defArgs s__law_pick) (defBody s__law_pick) (defScope s__law_pick) .none kV15 dc15 pm15 an15 cd15 ct15), sl15⟩) (c15 : PySem.W.codeIn K cd15 "_law_pick" = true) (k15 : PySem.W.keepIn K (.ref f15) = true)
    {f16 : Addr} {od16 an16 : Option Addr} {sl16 : Array (Option Value)} {oc16 kV16 dc16 pm16 cd16 ct16 : Value}
    (a16 : PySem.W.nsIn K mainGlobals "_law_right" = some (some (.ref f16))) (l16 : K.lookup f16 = some ⟨oc16, od16, .func (PySem.W.fnOf "_law_right" "_law_right" (defArgs s__law_right) (defBody s__law_right) (defScope s__law_right) .none kV16 dc16 pm16 an16 cd16 ct16), sl16⟩) (c16 : PySem.W.codeIn K cd16 "_law_right" = true) (k16 : PySem.W.keepIn K (.ref f16) = true)
    {f17 : Addr} {od17 an17 : Option Addr} {sl17 : Array (Option Value)} {oc17 kV17 dc17 pm17 cd17 ct17 : Value}
    (a17 : PySem.W.nsIn K mainGlobals "_law_pot" = some (some (.ref f17))) (l17 : K.lookup f17 = some ⟨oc17, od17, .func (PySem.W.fnOf "_law_pot" "_law_pot" (defArgs s__law_pot) (defBody s__law_pot) (defScope s__law_pot) .none kV17 dc17 pm17 an17 cd17 ct17), sl17⟩) (c17 : PySem.W.codeIn K cd17 "_law_pot" = true) (k17 : PySem.W.keepIn K (.ref f17) = true)
    {f18 : Addr} {od18 an18 : Option Addr} {sl18 : Array (Option Value)} {oc18 kV18 dc18 pm18 cd18 ct18 : Value}
    (a18 : PySem.W.nsIn K mainGlobals "law" = some (some (.ref f18))) (l18 : K.lookup f18 = some ⟨oc18, od18, .func (PySem.W.fnOf "law" "law" (defArgs s_law) (defBody s_law) (defScope s_law) .none kV18 dc18 pm18 an18 cd18 ct18), sl18⟩) (c18 : PySem.W.codeIn K cd18 "law" = true) (k18 : PySem.W.keepIn K (.ref f18) = true)
    (z_abs : PySem.W.nsIn K mainGlobals "abs" = some none)
    (z_bool : PySem.W.nsIn K mainGlobals "bool" = some none)
    (z_divmod : PySem.W.nsIn K mainGlobals "divmod" = some none)
    (z_int : PySem.W.nsIn K mainGlobals "int" = some none)
    (z_isinstance : PySem.W.nsIn K mainGlobals "isinstance" = some none)
    (z_len : PySem.W.nsIn K mainGlobals "len" = some none)
    (z_max : PySem.W.nsIn K mainGlobals "max" = some none)
    (z_range : PySem.W.nsIn K mainGlobals "range" = some none)
    (z_repr : PySem.W.nsIn K mainGlobals "repr" = some none)
    {q0 : Addr}
    (x0 : PySem.W.nsIn K mainGlobals "PRIMES" = some (some (.ref q0))) : Facts K mg [q0] :=
  { z_abs := PySem.W.mg_none_of X G z_abs,
    z_bool := PySem.W.mg_none_of X G z_bool,
    z_divmod := PySem.W.mg_none_of X G z_divmod,
    z_int := PySem.W.mg_none_of X G z_int,
    z_isinstance := PySem.W.mg_none_of X G z_isinstance,
    z_len := PySem.W.mg_none_of X G z_len,
    z_max := PySem.W.mg_none_of X G z_max,
    z_range := PySem.W.mg_none_of X G z_range,
    z_repr := PySem.W.mg_none_of X G z_repr,
    ex_PRIMES := ⟨_, PySem.W.mg_of X G x0, rfl⟩,
    f_fits_integer := ⟨_, _, fun_mk (st := s_fits_integer) l0 c0 k0, PySem.W.mg_of X G a0⟩,
    f_fits_prime := ⟨_, _, fun_mk (st := s_fits_prime) l1 c1 k1, PySem.W.mg_of X G a1⟩,
    f_is_prime := ⟨_, _, fun_mk (st := s_is_prime) l2 c2 k2, PySem.W.mg_of X G a2⟩,
    f_need_prime := ⟨_, _, fun_mk (st := s_need_prime) l3 c3 k3, PySem.W.mg_of X G a3⟩,
    f_fits_count := ⟨_, _, fun_mk (st := s_fits_count) l4 c4 k4, PySem.W.mg_of X G a4⟩,
    f_need_rest := ⟨_, _, fun_mk (st := s_need_rest) l5 c5 k5, PySem.W.mg_of X G a5⟩,
    f_root := ⟨_, _, fun_mk (st := s_root) l6 c6 k6, PySem.W.mg_of X G a6⟩,
    f_least_odd := ⟨_, _, fun_mk (st := s_least_odd) l7 c7 k7, PySem.W.mg_of X G a7⟩,
    f_sign_rest := ⟨_, _, fun_mk (st := s_sign_rest) l8 c8 k8, PySem.W.mg_of X G a8⟩,
    f_is_rest := ⟨_, _, fun_mk (st := s_is_rest) l9 c9 k9, PySem.W.mg_of X G a9⟩,
    f_two_squares := ⟨_, _, fun_mk (st := s_two_squares) l10 c10 k10, PySem.W.mg_of X G a10⟩,
    f_inverse := ⟨_, _, fun_mk (st := s_inverse) l11 c11 k11, PySem.W.mg_of X G a11⟩,
    f_undone_rest := ⟨_, _, fun_mk (st := s_undone_rest) l12 c12 k12, PySem.W.mg_of X G a12⟩,
    f__law_prime_right := ⟨_, _, fun_mk (st := s__law_prime_right) l13 c13 k13, PySem.W.mg_of X G a13⟩,
    f__law_draw := ⟨_, _, fun_mk (st := s__law_draw) l14 c14 k14, PySem.W.mg_of X G a14⟩,
    f__law_pick := ⟨_, _, fun_mk (st := s__law_pick) l15 c15 k15, PySem.W.mg_of X G a15⟩,
    f__law_right := ⟨_, _, fun_mk (st := s__law_right) l16 c16 k16, PySem.W.mg_of X G a16⟩,
    f__law_pot := ⟨_, _, fun_mk (st := s__law_pot) l17 c17 k17, PySem.W.mg_of X G a17⟩,
    f_law := ⟨_, _, fun_mk (st := s_law) l18 c18 k18, PySem.W.mg_of X G a18⟩ }
end RL
namespace RM
open RI RL PySem L2
def PR : IO := .tup [.int 3, .int 5, .int 7, .int 11, .int 13]
end RM
set_option maxRecDepth 100000
namespace RM
open RI RL PySem L2
theorem draw_ok : Draws D__law_draw := by
  intro S p A B n hp hn hn2
  have g1 := getS_of hp.at_
  have g2 := getM_of hp.at_
  have hlt := hp.lt
  have e1 : atI [IV.int A, IV.int B] 0 = some (.int A) := rfl
  have e2 : ixN (0 + 1 + 1) 0 = some 0 := rfl
  have e3 : atI [IV.int A, IV.int B] 1 = some (.int B) := rfl
  have e4 : ixN (0 + 1 + 1) 1 = some 1 := rfl
  unfold D__law_draw
  by_cases hA : 0 < A
  · have hc : CDiv A n := ⟨hn, hn2⟩
    have hT : getT (S.put (.tup [.int (A / n), .int (A % n)])) S.n = some [.int (A / n), .int (A % n)] := getT_of (get_put_new (by have := hp.wf; omega))
    have hM : getM (S.put (.tup [.int (A / n), .int (A % n)])) p = some [.int A, .int B] := getM_of (by rw [get_put_old hlt]; exact hp.at_)
    refine ⟨A % n, A / n, B, (S.put (.tup [.int (A / n), .int (A % n)])).set p (.lst [.int (A / n), .int B]), ?_, Int.emod_nonneg _ (by omega), Int.emod_lt_of_pos _ hn, (hp.put _).set (Int.ediv_nonneg hp.a0 (by omega)) hp.b0 hp.b1, ?_⟩
    · simp only [dFun, dSeq, B__law_draw_0, B__law_draw_1, B__law_draw_2, dIfS, dtVal_eq, dOp_eq, List.map, List.replicate, List.cons_append, List.nil_append, List.length, if_true, dVar_0, dVar_1, dVar_2, dC_eq, bind_ok, fIx_at g1 e1, fGt_ii, hA, decide_true, dAsgG, dCall_eq, dCons_eq, dNil_eq, fDivmod_ii hc, gdPair, gdSub, hT, hM, gdName, e2, List.set_cons_zero, List.set_cons_succ, dRet]
    · exact (Kept.put _).trans (Kept.set _ (hp.put _).lt hp.ge)
  · have hB : 0 ≤ (B * 48271 + 18140) % 2147483587 := Int.emod_nonneg _ (by omega)
    have hB2 : (B * 48271 + 18140) % 2147483587 < 2147483587 := Int.emod_lt_of_pos _ (by omega)
    generalize hB3 : (B * 48271 + 18140) % 2147483587 = C at hB hB2
    have hp2 : Pot (S.set p (.lst [.int A, .int C])) p A C := hp.set hp.a0 hB (by omega)
    have g3 := getS_of hp2.at_
    have e5 : atI [IV.int A, IV.int C] 1 = some (.int C) := rfl
    have m1 : CMul B 48271 := cmul_r (by omega)
    have m2 : CMul C C := cmul_r (by omega)
    have q1 : CDiv (C * C % 2147483549) 37 := ⟨by decide, by decide⟩
    refine ⟨C * C % 2147483549 / 37 % n, A, C, S.set p (.lst [.int A, .int C]), ?_, Int.emod_nonneg _ (by omega), Int.emod_lt_of_pos _ hn, hp2, Kept.set _ hlt hp.ge⟩
    simp only [dFun, dSeq, B__law_draw_0, B__law_draw_1, B__law_draw_2, dIfS, dtVal_eq, dOp_eq, List.map, List.replicate, List.cons_append, List.nil_append, List.length, if_true, dVar_0, dVar_1, dVar_2, dC_eq, bind_ok, fIx_at g1 e1, fIx_at g1 e3, fGt_ii, hA, decide_false, dNext, dAsgG, dCall_eq, dCons_eq, dNil_eq, fMul_ii m1, fAdd_ii, fInt1_i, fMod_ii (show (0 : Int) < 2147483587 by decide), hB3, gdSub, g2, gdName, e4, List.set_cons_zero, List.set_cons_succ, dRet, fIx_at g3 e5, fMul_ii m2, fMod_ii (show (0 : Int) < 2147483549 by decide), fDiv_ii q1, fMod_ii hn]
end RM
set_option maxRecDepth 100000
namespace RM
open RI RL PySem L2

theorem pot_ok (ns : List Int) : ∃ A B : Int, 0 ≤ A ∧ 0 ≤ B ∧ B < 2147483648 ∧ D__law_pot [.ref 1, .int 0] ⟨[PR, .fl (ns.map IV.int)], 8, []⟩ = .ok (.ref 8) ⟨[PR, .fl (ns.map IV.int)], 9, [.lst [.int A, .int B]]⟩ := by
  have key : ∀ c : Int, 0 ≤ (c % 2147483549 + 53) * 27 % 2147483477 + 1 ∧ (c % 2147483549 + 53) * 27 % 2147483477 + 1 < 2147483648 := fun c => by
    have := Int.emod_nonneg ((c % 2147483549 + 53) * 27) (show (2147483477 : Int) ≠ 0 by decide)
    have := Int.emod_lt_of_pos ((c % 2147483549 + 53) * 27) (show (0 : Int) < 2147483477 by decide)
    omega
  have fin : ∀ (c : Int) (S : Sto), S.os = [] → S.n = 8 → (B__law_pot_2 [some (.ref 1), some (.int 0), some (.int c)] S) = .rt (.ref 8) ⟨S.st, 9, [.lst [.int (if c - 10 ^ 18 > 0 then c - 10 ^ 18 else 0), .int ((c % 2147483549 + 53) * 27 % 2147483477 + 1)]]⟩ := by
    intro c S h1 h2
    have hc : CMul (c % 2147483549 + 53) (((2 * 0 + 3) : Int) ^ (3 : Int).toNat) := cmul_r (by decide)
    have hp1 : CPow (10 : Int) 18 := by decide
    have hp2 : CPow ((2 * 0 + 3) : Int) 3 := by decide
    have hm2 : CMul (2 : Int) 0 := cmul_r (by decide)
    simp only [B__law_pot_2, dRet, dLst, dCall_eq, dCons_eq, dNil_eq, dOp_eq, dC_eq, dVar_0, dVar_1, dVar_2, bind_ok, fMax2, fSub_ii, fPow_ii hp1, fPow_ii hp2, fInt1_i, fMod_ii (show (0 : Int) < 2147483549 by decide), fMod_ii (show (0 : Int) < 2147483477 by decide), fAdd_ii, fMul_ii hm2, fMul_ii hc, List.length, h1, h2, Sto.put]
    rfl
  cases ns with
  | nil =>
    refine ⟨if (53 : Int) - 10 ^ 18 > 0 then (53 : Int) - 10 ^ 18 else 0, (53 % 2147483549 + 53) * 27 % 2147483477 + 1, ?_, (key 53).1, (key 53).2, ?_⟩
    rotate_left
    · refine dFun_rt rfl ?_
      have e1 : dSeq B__law_pot_0 (dSeq B__law_pot_1 B__law_pot_2) [some (.ref 1), some (.int 0), none] ⟨[PR, .fl (([] : List Int).map IV.int)], 8, []⟩ = B__law_pot_2 [some (.ref 1), some (.int 0), some (.int 53)] ⟨[PR, .fl (([] : List Int).map IV.int)], 8, []⟩ := rfl
      have e2 : dSeq B__law_pot_0 (dSeq B__law_pot_1 B__law_pot_2) (List.map some [IV.ref 1, IV.int 0] ++ List.replicate (3 - 2) none) ⟨[PR, .fl (([] : List Int).map IV.int)], 8, []⟩ = _ := e1.trans (fin 53 _ rfl rfl)
      exact e2
    · split <;> omega
  | cons x ns =>
    refine ⟨if (if x < 0 then -x else x) - 10 ^ 18 > 0 then (if x < 0 then -x else x) - 10 ^ 18 else 0, ((if x < 0 then -x else x) % 2147483549 + 53) * 27 % 2147483477 + 1, ?_, (key (if x < 0 then -x else x)).1, (key (if x < 0 then -x else x)).2, ?_⟩
    rotate_left
    · refine dFun_rt rfl ?_
      have e0 : getS ⟨[PR, .fl ((x :: ns).map IV.int)], 8, []⟩ 1 = some ((x :: ns).map IV.int) := rfl
      have e0' : atI ((x :: ns).map IV.int) 0 = some (.int x) := by
        have : ixN ((x :: ns).map IV.int).length 0 = some 0 := by
          unfold ixN
          simp
        unfold atI
        rw [this]
        rfl
      have e1 : dSeq B__law_pot_0 (dSeq B__law_pot_1 B__law_pot_2) [some (.ref 1), some (.int 0), none] ⟨[PR, .fl ((x :: ns).map IV.int)], 8, []⟩ = B__law_pot_2 [some (.ref 1), some (.int 0), some (.int (if x < 0 then -x else x))] ⟨[PR, .fl ((x :: ns).map IV.int)], 8, []⟩ := by
        have hm2 : CMul (127 : Int) 0 := cmul_r (by decide)
        have hl : (0 : Int) < (((x :: ns).map IV.int).length : Int) := by simp only [List.length_map, List.length_cons]; omega
        simp only [dSeq, B__law_pot_0, B__law_pot_1, dAsg, dIfS, dtVal_eq, dOp_eq, dC_eq, dVar_0, dVar_1, bind_ok, fMul_ii hm2, fAdd_ii, asgT, List.set, dCall_eq, dCons_eq, dNil_eq, fLen, e0, fLt_ii, hl, decide_true, fIx_at e0 e0', fAbs]
      have e2 : dSeq B__law_pot_0 (dSeq B__law_pot_1 B__law_pot_2) (List.map some [IV.ref 1, IV.int 0] ++ List.replicate (3 - 2) none) ⟨[PR, .fl ((x :: ns).map IV.int)], 8, []⟩ = _ := e1.trans (fin _ _ rfl rfl)
      exact e2
    · split <;> omega
end RM

set_option maxRecDepth 100000
namespace RM
open RI RL PySem L2

def seenR (r : RS) : Option (Sl × List IO × Option IO × Bool) := match r with | .nx σ S => some (σ, S.st, S.get 8, Nat.beq (S.os.length + 8) S.n) | _ => none
theorem loop_ok (xs : List IV) (A B : Int) : seenR (B__law_right_0 [some (.ref 8), none, none, none, none] ⟨[PR, .fl xs], 9, [.lst [.int A, .int B]]⟩) = some ([some (.ref 8), some (.int 13), none, none, none], [PR, .fl xs], some (.lst [.int A, .int B]), true) := by kernel_rfl
end RM

set_option maxRecDepth 100000
namespace RM
open RI RL PySem L2

def tails (n : Nat) (xs : List IV) (os : List IO) (t : Nat × Nat × Nat) : RS := dSeq B__law_right_3 (dSeq B__law_right_4 B__law_right_5) [some (.ref 8), some (.int t.1), some (.int t.2.1), some (.int t.2.2), none] ⟨[PR, .fl xs], n, os⟩
def tailsD (n : Nat) (xs : List IV) (os : List IO) (t : Nat × Nat × Nat) : RS := .nx [some (.ref 8), some (.int t.1), some (.int t.2.1), some (.int t.2.2), some (.int ((t.2.1 * t.2.2 % t.1 : Nat) : Int))] ⟨[PR, .fl xs], n, os⟩
def tailsR (n : Nat) (xs : List IV) (os : List IO) (p a : Nat) : Prop := (List.range p).map (fun b => tails n xs os (p, a, b)) = (List.range p).map (fun b => tailsD n xs os (p, a, b))
theorem tails_3_0 (n : Nat) (xs : List IV) (os : List IO) : tailsR n xs os 3 0 := by unfold tailsR; kernel_rfl
theorem tails_3_1 (n : Nat) (xs : List IV) (os : List IO) : tailsR n xs os 3 1 := by unfold tailsR; kernel_rfl
theorem tails_3_2 (n : Nat) (xs : List IV) (os : List IO) : tailsR n xs os 3 2 := by unfold tailsR; kernel_rfl
theorem tails_5_0 (n : Nat) (xs : List IV) (os : List IO) : tailsR n xs os 5 0 := by unfold tailsR; kernel_rfl
theorem tails_5_1 (n : Nat) (xs : List IV) (os : List IO) : tailsR n xs os 5 1 := by unfold tailsR; kernel_rfl
theorem tails_5_2 (n : Nat) (xs : List IV) (os : List IO) : tailsR n xs os 5 2 := by unfold tailsR; kernel_rfl
theorem tails_5_3 (n : Nat) (xs : List IV) (os : List IO) : tailsR n xs os 5 3 := by unfold tailsR; kernel_rfl
theorem tails_5_4 (n : Nat) (xs : List IV) (os : List IO) : tailsR n xs os 5 4 := by unfold tailsR; kernel_rfl
theorem tails_7_0 (n : Nat) (xs : List IV) (os : List IO) : tailsR n xs os 7 0 := by unfold tailsR; kernel_rfl
theorem tails_7_1 (n : Nat) (xs : List IV) (os : List IO) : tailsR n xs os 7 1 := by unfold tailsR; kernel_rfl
theorem tails_7_2 (n : Nat) (xs : List IV) (os : List IO) : tailsR n xs os 7 2 := by unfold tailsR; kernel_rfl
theorem tails_7_3 (n : Nat) (xs : List IV) (os : List IO) : tailsR n xs os 7 3 := by unfold tailsR; kernel_rfl
theorem tails_7_4 (n : Nat) (xs : List IV) (os : List IO) : tailsR n xs os 7 4 := by unfold tailsR; kernel_rfl
theorem tails_7_5 (n : Nat) (xs : List IV) (os : List IO) : tailsR n xs os 7 5 := by unfold tailsR; kernel_rfl
theorem tails_7_6 (n : Nat) (xs : List IV) (os : List IO) : tailsR n xs os 7 6 := by unfold tailsR; kernel_rfl
theorem tails_11_0 (n : Nat) (xs : List IV) (os : List IO) : tailsR n xs os 11 0 := by unfold tailsR; kernel_rfl
theorem tails_11_1 (n : Nat) (xs : List IV) (os : List IO) : tailsR n xs os 11 1 := by unfold tailsR; kernel_rfl
theorem tails_11_2 (n : Nat) (xs : List IV) (os : List IO) : tailsR n xs os 11 2 := by unfold tailsR; kernel_rfl
theorem tails_11_3 (n : Nat) (xs : List IV) (os : List IO) : tailsR n xs os 11 3 := by unfold tailsR; kernel_rfl
theorem tails_11_4 (n : Nat) (xs : List IV) (os : List IO) : tailsR n xs os 11 4 := by unfold tailsR; kernel_rfl
theorem tails_11_5 (n : Nat) (xs : List IV) (os : List IO) : tailsR n xs os 11 5 := by unfold tailsR; kernel_rfl
theorem tails_11_6 (n : Nat) (xs : List IV) (os : List IO) : tailsR n xs os 11 6 := by unfold tailsR; kernel_rfl
theorem tails_11_7 (n : Nat) (xs : List IV) (os : List IO) : tailsR n xs os 11 7 := by unfold tailsR; kernel_rfl
theorem tails_11_8 (n : Nat) (xs : List IV) (os : List IO) : tailsR n xs os 11 8 := by unfold tailsR; kernel_rfl
theorem tails_11_9 (n : Nat) (xs : List IV) (os : List IO) : tailsR n xs os 11 9 := by unfold tailsR; kernel_rfl
theorem tails_11_10 (n : Nat) (xs : List IV) (os : List IO) : tailsR n xs os 11 10 := by unfold tailsR; kernel_rfl
theorem tails_13_0 (n : Nat) (xs : List IV) (os : List IO) : tailsR n xs os 13 0 := by unfold tailsR; kernel_rfl
theorem tails_13_1 (n : Nat) (xs : List IV) (os : List IO) : tailsR n xs os 13 1 := by unfold tailsR; kernel_rfl
theorem tails_13_2 (n : Nat) (xs : List IV) (os : List IO) : tailsR n xs os 13 2 := by unfold tailsR; kernel_rfl
theorem tails_13_3 (n : Nat) (xs : List IV) (os : List IO) : tailsR n xs os 13 3 := by unfold tailsR; kernel_rfl
theorem tails_13_4 (n : Nat) (xs : List IV) (os : List IO) : tailsR n xs os 13 4 := by unfold tailsR; kernel_rfl
theorem tails_13_5 (n : Nat) (xs : List IV) (os : List IO) : tailsR n xs os 13 5 := by unfold tailsR; kernel_rfl
theorem tails_13_6 (n : Nat) (xs : List IV) (os : List IO) : tailsR n xs os 13 6 := by unfold tailsR; kernel_rfl
theorem tails_13_7 (n : Nat) (xs : List IV) (os : List IO) : tailsR n xs os 13 7 := by unfold tailsR; kernel_rfl
theorem tails_13_8 (n : Nat) (xs : List IV) (os : List IO) : tailsR n xs os 13 8 := by unfold tailsR; kernel_rfl
theorem tails_13_9 (n : Nat) (xs : List IV) (os : List IO) : tailsR n xs os 13 9 := by unfold tailsR; kernel_rfl
theorem tails_13_10 (n : Nat) (xs : List IV) (os : List IO) : tailsR n xs os 13 10 := by unfold tailsR; kernel_rfl
theorem tails_13_11 (n : Nat) (xs : List IV) (os : List IO) : tailsR n xs os 13 11 := by unfold tailsR; kernel_rfl
theorem tails_13_12 (n : Nat) (xs : List IV) (os : List IO) : tailsR n xs os 13 12 := by unfold tailsR; kernel_rfl
theorem tails_3 (n : Nat) (xs : List IV) (os : List IO) : ∀ {a : Nat}, a < 3 → tailsR n xs os 3 a
  | 0, _ => tails_3_0 n xs os
  | 1, _ => tails_3_1 n xs os
  | 2, _ => tails_3_2 n xs os
theorem tails_5 (n : Nat) (xs : List IV) (os : List IO) : ∀ {a : Nat}, a < 5 → tailsR n xs os 5 a
  | 0, _ => tails_5_0 n xs os
  | 1, _ => tails_5_1 n xs os
  | 2, _ => tails_5_2 n xs os
  | 3, _ => tails_5_3 n xs os
  | 4, _ => tails_5_4 n xs os
theorem tails_7 (n : Nat) (xs : List IV) (os : List IO) : ∀ {a : Nat}, a < 7 → tailsR n xs os 7 a
  | 0, _ => tails_7_0 n xs os
  | 1, _ => tails_7_1 n xs os
  | 2, _ => tails_7_2 n xs os
  | 3, _ => tails_7_3 n xs os
  | 4, _ => tails_7_4 n xs os
  | 5, _ => tails_7_5 n xs os
  | 6, _ => tails_7_6 n xs os
theorem tails_11 (n : Nat) (xs : List IV) (os : List IO) : ∀ {a : Nat}, a < 11 → tailsR n xs os 11 a
  | 0, _ => tails_11_0 n xs os
  | 1, _ => tails_11_1 n xs os
  | 2, _ => tails_11_2 n xs os
  | 3, _ => tails_11_3 n xs os
  | 4, _ => tails_11_4 n xs os
  | 5, _ => tails_11_5 n xs os
  | 6, _ => tails_11_6 n xs os
  | 7, _ => tails_11_7 n xs os
  | 8, _ => tails_11_8 n xs os
  | 9, _ => tails_11_9 n xs os
  | 10, _ => tails_11_10 n xs os
theorem tails_13 (n : Nat) (xs : List IV) (os : List IO) : ∀ {a : Nat}, a < 13 → tailsR n xs os 13 a
  | 0, _ => tails_13_0 n xs os
  | 1, _ => tails_13_1 n xs os
  | 2, _ => tails_13_2 n xs os
  | 3, _ => tails_13_3 n xs os
  | 4, _ => tails_13_4 n xs os
  | 5, _ => tails_13_5 n xs os
  | 6, _ => tails_13_6 n xs os
  | 7, _ => tails_13_7 n xs os
  | 8, _ => tails_13_8 n xs os
  | 9, _ => tails_13_9 n xs os
  | 10, _ => tails_13_10 n xs os
  | 11, _ => tails_13_11 n xs os
  | 12, _ => tails_13_12 n xs os
theorem tails_ok (n : Nat) (xs : List IV) (os : List IO) {p a b : Nat} (hp : p ∈ [3, 5, 7, 11, 13]) (ha : a < p) (hb : b < p) : tails n xs os (p, a, b) = tailsD n xs os (p, a, b) := by
  have h : tailsR n xs os p a := by
    simp only [List.mem_cons, List.not_mem_nil, or_false] at hp
    rcases hp with rfl | rfl | rfl | rfl | rfl
    · exact tails_3 n xs os ha
    · exact tails_5 n xs os ha
    · exact tails_7 n xs os ha
    · exact tails_11 n xs os ha
    · exact tails_13 n xs os ha
  exact List.map_inj_left.mp h b (List.mem_range.mpr hb)
theorem rd_int {n : Nat} {S : Sto} {i : Int} : rdD (n + 1) S (.int i) = some (.int i) := rfl
theorem rd_non {n : Nat} {S : Sto} : rdD (n + 1) S .non = some .none := rfl
theorem rds_nil {n : Nat} {S : Sto} : rdDs (n + 1) S [] = some [] := rfl
theorem rds_cons {n : Nat} {S : Sto} {v : IV} {vs : List IV} {d : PyData} {ds : List PyData} (h : rdD n S v = some d) (t : rdDs n S vs = some ds) : rdDs (n + 1) S (v :: vs) = some (d :: ds) := by
  simp only [rdDs, h, t]
theorem rd_lst {n : Nat} {S : Sto} {l : Nat} {xs : List IV} {ds : List PyData} (h : S.get l = some (.lst xs)) (t : rdDs n S xs = some ds) : rdD (n + 1) S (.ref l) = some (.list ds) := by
  simp only [rdD, h, t]
theorem rd_tup {n : Nat} {S : Sto} {l : Nat} {xs : List IV} {ds : List PyData} (h : S.get l = some (.tup xs)) (t : rdDs n S xs = some ds) : rdD (n + 1) S (.ref l) = some (.tuple ds) := by
  simp only [rdD, h, t]
theorem last_ok (σ : Sl) (n : Nat) (h8 : 8 ≤ n) (xs : List IV) (os : List IO) : ∃ S', B__law_right_6 σ ⟨[PR, .fl xs], n, os⟩ = .rt (.bl true) S' := by
  let S : Sto := ⟨[PR, .fl xs], n, os⟩
  let S1 : Sto := S.put (.tup [.int 1, .int 3])
  let L1 : List IV := [.int 5, .int (-1), .int 3, .non, .int 3, .ref n]
  let S2 : Sto := S1.put (.lst L1)
  let S3 : Sto := S2.put (.tup [.int 1, .int 3])
  let L2 : List IV := [.int 5, .int (-1), .int 3, .non, .int 3, .ref (n + 2)]
  let S4 : Sto := S3.put (.lst L2)
  have c1 : (dLst (dCons (dCall D_undone_rest (dCons (dC (.int 7)) (dCons (dC (.int 3)) dNil))) (dCons (dCall D_sign_rest (dCons (dC (.int 7)) (dCons (dC (.int 3)) dNil))) (dCons (dCall D_root (dCons (dC (.int 7)) (dCons (dC (.int 2)) dNil))) (dCons (dCall D_root (dCons (dC (.int 7)) (dCons (dC (.int 3)) dNil))) (dCons (dCall D_least_odd (dCons (dC (.int 7)) dNil)) (dCons (dCall D_two_squares (dCons (dC (.int 7)) (dCons (dC (.int 3)) dNil))) dNil)))))) : DE) σ S = .ok (.ref (n + 1)) S2 := by kernel_rfl
  have c2 : (dLst (dCons (dC (.int 5)) (dCons (dUn fNeg (dC (.int 1))) (dCons (dC (.int 3)) (dCons (dC .non) (dCons (dC (.int 3)) (dCons (dTup (dCons (dC (.int 1)) (dCons (dC (.int 3)) dNil))) dNil)))))) : DE) σ S2 = .ok (.ref (n + 3)) S4 := by kernel_rfl
  have n2 : 8 ≤ S2.n := by show 8 ≤ n + 2; omega
  have g4 : S4.get (n + 3) = some (.lst L2) := get_put_new (S := S3) (by show 8 ≤ n + 3; omega)
  have g3 : S4.get (n + 2) = some (.tup [.int 1, .int 3]) := (get_put_old (S := S3) (by show n + 2 < n + 3; omega)).trans (get_put_new (S := S2) n2)
  have g2 : S4.get (n + 1) = some (.lst L1) := (get_put_old (S := S3) (by show n + 1 < n + 3; omega)).trans ((get_put_old (S := S2) (by show n + 1 < n + 2; omega)).trans (get_put_new (S := S1) (by show 8 ≤ n + 1; omega)))
  have g1 : S4.get n = some (.tup [.int 1, .int 3]) := (get_put_old (S := S3) (by show n < n + 3; omega)).trans ((get_put_old (S := S2) (by show n < n + 2; omega)).trans ((get_put_old (S := S1) (by show n < n + 1; omega)).trans (get_put_new (S := S) h8)))
  have r1 : rdD 60 S4 (.ref (n + 1)) = some (.list [.int 5, .int (-1), .int 3, .none, .int 3, .tuple [.int 1, .int 3]]) :=
    rd_lst g2 (rds_cons rd_int (rds_cons rd_int (rds_cons rd_int (rds_cons rd_non (rds_cons rd_int (rds_cons (rd_tup g1 (rds_cons rd_int (rds_cons rd_int rds_nil))) rds_nil))))))
  have r2 : rdD 60 S4 (.ref (n + 3)) = some (.list [.int 5, .int (-1), .int 3, .none, .int 3, .tuple [.int 1, .int 3]]) :=
    rd_lst g4 (rds_cons rd_int (rds_cons rd_int (rds_cons rd_int (rds_cons rd_non (rds_cons rd_int (rds_cons (rd_tup g3 (rds_cons rd_int (rds_cons rd_int rds_nil))) rds_nil))))))
  have r3 : eqV2 (.ref (n + 1)) (.ref (n + 3)) S4 = some true := by
    show (match rdD 60 S4 (.ref (n + 1)) with
      | some d => (match rdD 60 S4 (.ref (n + 3)) with
        | some e => if SeqAt.shaped d && SeqAt.shaped e then some (PyData.eqv d e) else none
        | none => none)
      | none => none) = some true
    rw [r1, r2]
    decide +kernel
  refine ⟨S4, ?_⟩
  show (match dOp fEq _ _ σ S with | .ok v S' => RS.rt v S' | .no => RS.no) = _
  rw [dOp_eq, c1, bind_ok, c2, bind_ok]
  show (match (match eqV2 (.ref (n + 1)) (.ref (n + 3)) S4 with | some b => R3.ok (IV.bl b) S4 | none => .no) with | .ok v S' => RS.rt v S' | .no => RS.no) = _
  rw [r3]
end RM
set_option maxRecDepth 100000
namespace RM
open RI RL PySem L2
theorem dSeq_nx {a b : DS} {σ σ' : Sl} {S S' : Sto} (h : a σ S = .nx σ' S') : dSeq a b σ S = b σ' S' := by
  unfold dSeq
  rw [h]
theorem dSeq3 {a b c d : DS} {σ σ' : Sl} {S S' : Sto} (h : dSeq a (dSeq b c) σ S = .nx σ' S') : dSeq a (dSeq b (dSeq c d)) σ S = d σ' S' := by
  unfold dSeq at h ⊢
  cases ha : a σ S with
  | nx σ1 S1 =>
    rw [ha] at h
    simp only at h ⊢
    cases hb : b σ1 S1 with
    | nx σ2 S2 =>
      rw [hb] at h
      simp only at h ⊢
      cases hc : c σ2 S2 with
      | nx σ3 S3 => rw [hc] at h; cases h; rfl
      | _ => rw [hc] at h; cases h
    | _ => rw [hb] at h; cases h
  | _ => rw [ha] at h; cases h
def five : List IV := [.int 3, .int 5, .int 7, .int 11, .int 13]
theorem pick_ok {S : Sto} {p q : Nat} {A B : Int} (hp : Pot S p A B) (hq : S.get q = some (.lst five)) (hpq : q ≠ p) (hqn : q < S.n) :
    ∃ (k : Nat) (A' B' : Int) (S' : Sto), D__law_pick [.ref p, .ref q] S = .ok (.int k) S' ∧ k ∈ [3, 5, 7, 11, 13] ∧ Pot S' p A' B' ∧ Kept S S' p := by
  obtain ⟨d, A', B', S', e, d0, d1, hp', hk⟩ := draw_ok S p A B 5 hp (by decide) (by decide)
  have gl : getS S q = some five := getS_of hq
  have hq' : getS S' q = some five := getS_of ((hk.old q hqn hpq).trans hq)
  have main : ∀ k : Nat, atI five d = some (.int (k : Int)) → D__law_pick [.ref p, .ref q] S = .ok (.int k) S' := fun k hk' => by
    refine dFun_rt rfl ?_
    show (match dOp fIx (dVar 1) _ _ S with | .ok v S' => RS.rt v S' | .no => RS.no) = _
    have e1 : fLen [.ref q] S = .ok (.int 5) S := by
      show (match getS S q with | some xs => R3.ok (IV.int xs.length) S | none => .no) = _
      rw [gl]
      rfl
    simp only [dOp_eq, dCall_eq, dCons_eq, dNil_eq, List.map, List.replicate, List.cons_append, List.nil_append, dVar_0, dVar_1, bind_ok, e1, e, fIx_at hq' hk']
  have hd : d = 0 ∨ d = 1 ∨ d = 2 ∨ d = 3 ∨ d = 4 := by omega
  rcases hd with rfl | rfl | rfl | rfl | rfl
  · exact ⟨3, A', B', S', main 3 rfl, by simp, hp', hk⟩
  · exact ⟨5, A', B', S', main 5 rfl, by simp, hp', hk⟩
  · exact ⟨7, A', B', S', main 7 rfl, by simp, hp', hk⟩
  · exact ⟨11, A', B', S', main 11 rfl, by simp, hp', hk⟩
  · exact ⟨13, A', B', S', main 13 rfl, by simp, hp', hk⟩
theorem right_ok (xs : List IV) (A B : Int) (hA : 0 ≤ A) (hB : 0 ≤ B) (hB2 : B < 2147483648) : ∃ S', D__law_right [.ref 8] ⟨[PR, .fl xs], 9, [.lst [.int A, .int B]]⟩ = .ok (.bl true) S' := by
  have h0 := loop_ok xs A B
  generalize hr : B__law_right_0 [some (.ref 8), none, none, none, none] ⟨[PR, .fl xs], 9, [.lst [.int A, .int B]]⟩ = r at h0
  cases r with
  | nx σ1 S1 =>
    simp only [seenR, Option.some.injEq, Prod.mk.injEq] at h0
    obtain ⟨rfl, hst, hg, hb⟩ := h0
    have hwf : S1.os.length + 8 = S1.n := Nat.eq_of_beq_eq_true hb
    have hp1 : Pot S1 8 A B := ⟨hg, by decide, hwf, hA, hB, hB2⟩
    have h8 := hp1.lt
    obtain ⟨k, A2, B2, S2, e2, hk, hp2, hk2⟩ := pick_ok (hp1.put (.lst five)) (q := S1.n) (get_put_new (by omega)) (by omega) (Nat.lt_succ_self _)
    have k0 : 0 < k ∧ k < 14 := by
      simp only [List.mem_cons, List.not_mem_nil, or_false] at hk
      omega
    obtain ⟨d, A3, B3, S3, e3, d0, d1, hp3, hk3⟩ := draw_ok S2 8 A2 B2 k hp2 (by omega) (by omega)
    obtain ⟨c, A4, B4, S4, e4, c0, c1, hp4, hk4⟩ := draw_ok S3 8 A3 B3 k hp3 (by omega) (by omega)
    obtain ⟨a, rfl⟩ : ∃ a : Nat, d = (a : Int) := ⟨d.toNat, by omega⟩
    obtain ⟨b, rfl⟩ : ∃ b : Nat, c = (b : Int) := ⟨c.toNat, by omega⟩
    have st4 : S4.st = [PR, .fl xs] := (hk4.st.trans (hk3.st.trans hk2.st)).trans hst
    have n4 : 8 ≤ S4.n := Nat.le_of_lt hp4.lt
    obtain ⟨st, n, os⟩ := S4
    have st4 : st = [PR, .fl xs] := st4
    subst st4
    have t : dSeq B__law_right_3 (dSeq B__law_right_4 B__law_right_5) [some (.ref 8), some (.int (k : Int)), some (.int (a : Int)), some (.int (b : Int)), none] ⟨[PR, .fl xs], n, os⟩ = .nx [some (.ref 8), some (.int (k : Int)), some (.int (a : Int)), some (.int (b : Int)), some (.int ((a * b % k : Nat) : Int))] ⟨[PR, .fl xs], n, os⟩ := tails_ok n xs os hk (Int.ofNat_lt.mp d1) (Int.ofNat_lt.mp c1)
    obtain ⟨S5, e5⟩ := last_ok [some (.ref 8), some (.int k), some (.int a), some (.int b), some (.int ((a * b % k : Nat) : Int))] n n4 xs os
    refine ⟨S5, dFun_rt rfl ?_⟩
    have f1 : B__law_right_1 [some (.ref 8), some (.int 13), none, none, none] S1 = .nx [some (.ref 8), some (.int k), none, none, none] S2 := by
      have q1 : dLst (dCons (dC (.int 3)) (dCons (dC (.int 5)) (dCons (dC (.int 7)) (dCons (dC (.int 11)) (dCons (dC (.int 13)) dNil))))) [some (.ref 8), some (.int 13), none, none, none] S1 = .ok (.ref S1.n) (S1.put (.lst five)) := rfl
      show (match dCall D__law_pick _ _ S1 with | .ok v S' => (match asgT (.nm 1) v _ S' with | some σ' => RS.nx σ' S' | none => .no) | .no => .no) = _
      simp only [dCall_eq, dCons_eq, dNil_eq, dVar_0, bind_ok, q1, e2, asgT, List.set_cons_succ, List.set_cons_zero]
    have f2 : B__law_right_2 [some (.ref 8), some (.int k), none, none, none] S2 = .nx [some (.ref 8), some (.int k), some (.int a), some (.int b), none] ⟨[PR, .fl xs], n, os⟩ := by
      simp only [B__law_right_2, dPar, dCall_eq, dCons_eq, dNil_eq, dVar_0, dVar_1, bind_ok, e3, e4, List.set_cons_succ, List.set_cons_zero]
    refine (dSeq_nx hr).trans ((dSeq_nx f1).trans ((dSeq_nx f2).trans ?_))
    exact (dSeq3 t).trans e5
  | _ => simp [seenR] at h0
theorem law_ok (ns : List Int) : ∃ S', D_law [.ref 1] ⟨[PR, .fl (ns.map IV.int)], 8, []⟩ = .ok (.bl true) S' := by
  obtain ⟨A, B, h1, h2, h3, h4⟩ := pot_ok ns
  obtain ⟨S', h5⟩ := right_ok (ns.map IV.int) A B h1 h2 h3
  refine ⟨S', dFun_rt rfl ?_⟩
  show (match dCall D__law_right _ _ _ with | .ok v S' => RS.rt v S' | .no => RS.no) = _
  simp only [dCall_eq, dCons_eq, dNil_eq, List.map, List.replicate, List.cons_append, List.nil_append, dC_eq, dVar_0, bind_ok, h4, h5]
end RM
set_option maxRecDepth 100000
namespace RM
open RI RL PySem PySem.Spec PyProof.Rows L2
theorem start_ok {K : PySem.W.Frag} {H : Hp} {M0 qs : List Addr} {cs : List IO} {a : Addr} {ns : List Int} {D : Fn} (l : Nat) (hl : cs.length = l) (hq : qs.length = l) (h8 : l < 8) (hM : M0 <+: qs) (hn : ∀ xs, IO.lst xs ∉ cs)
    (ho : ∀ (i : Nat) (o : IO), cs[i]? = some o → ∃ q, qs[i]? = some q ∧ Ro K (qs ++ List.replicate (8 - l) a) H q o) (ha : SqF K H a (ns.map V.int)) (run : ∃ S', D [.ref l] ⟨cs ++ [.fl (ns.map IV.int)], 8, []⟩ = .ok (.bl true) S') :
    spI K M0 1 D [.ref a] H (fun v _ => v = .bl true) E0 := by
  obtain ⟨S', e⟩ := run
  have gl : ∀ {k : Nat} {o : IO}, Sto.get ⟨cs ++ [.fl (ns.map IV.int)], 8, []⟩ k = some o → (k < l ∧ cs[k]? = some o) ∨ (k = l ∧ o = .fl (ns.map IV.int)) := fun {k o} h => by
    unfold Sto.get at h
    split at h
    · have h : (cs ++ [IO.fl (ns.map IV.int)])[k]? = some o := h
      by_cases hk : k < l
      · rw [List.getElem?_append_left (by omega)] at h
        exact .inl ⟨hk, h⟩
      · rw [List.getElem?_append_right (by omega), hl] at h
        by_cases hk2 : k = l
        · subst hk2
          rw [Nat.sub_self] at h
          cases h
          exact .inr ⟨rfl, rfl⟩
        · rw [List.getElem?_eq_none (by simp; omega)] at h
          cases h
    · have h : (none : Option IO) = some o := by simpa using h
      cases h
  have nol : ∀ {k : Nat} {xs : List IV}, Sto.get ⟨cs ++ [.fl (ns.map IV.int)], 8, []⟩ k ≠ some (.lst xs) := fun {k xs} h => by
    rcases gl h with ⟨_, e⟩ | ⟨_, e⟩
    · exact hn xs (List.mem_of_getElem? e)
    · cases e
  have ml : (qs ++ List.replicate (8 - l) a)[l]? = some a := by
    rw [List.getElem?_append_right (by omega), hq, Nat.sub_self, List.getElem?_replicate, if_pos (by omega)]
  refine ⟨rfl, qs ++ List.replicate (8 - l) a, [.ref l], ⟨cs ++ [.fl (ns.map IV.int)], 8, []⟩, ⟨hM.trans (List.prefix_append _ _), by simp [hq]; omega, rfl, fun k xs _ => nol, fun k o h => ?_, fun k _ xs _ _ h _ _ _ => absurd h nol⟩, .cons ⟨a, ml, rfl⟩ .nil, ?_⟩
  · rcases gl h with ⟨hk, e⟩ | ⟨rfl, rfl⟩
    · obtain ⟨q, e1, r⟩ := ho k o e
      exact ⟨q, by rw [List.getElem?_append_left (by omega)]; exact e1, r⟩
    · refine ⟨a, ml, ns.map V.int, ha, ?_⟩
      induction ns with
      | nil => exact .nil
      | cons n ns ih =>
        clear ih
        have all : ∀ zs : List Int, Rvs (qs ++ List.replicate (8 - cs.length) a) (zs.map IV.int) (zs.map V.int) := fun zs => by
          induction zs with
          | nil => exact .nil
          | cons z zs ih => exact .cons rfl ih
        rw [hl] at all
        exact all (n :: ns)
  · rw [e]
    exact fun m' H' _ _ w hw => hw
theorem fin_mk {l : PySem.W.OpenLaw} {w : World} {K : PySem.W.Frag} {n : Nat} {mg : Str → Option Value} {fa q : Addr} (hfa : mg "law" = some (.ref fa)) (c : Facts K mg [q]) {dq : Option Addr} {nq : Nat} {slq : Array (Option Value)} {t1 t2 t3 t4 t5 : Tok}
    (lq : K.lookup q = some ⟨.type "tuple", dq, .seq #[.int 3 t1, .int 5 t2, .int 7 t3, .int 11 t4, .int 13 t5] nq, slq⟩) :
    ∃ (fd : FuncData) (sp : Sp), (∀ (s : Shared) (u : Value), BindsTo s fd ⟨[u], []⟩ [("_law_script", u)]) ∧
        (∀ base : Heap, K.In base → base.Ns mainGlobals mg → FnG l.prog w K mg base 8 fa fd ["_law_script"] sp) ∧
        ∀ (H : Hp) (a : Addr) (ns : List Int), ns.length ≤ n → SqF K H a (ns.map V.int) → sp [.ref a] H (fun v _ => v = .bl true) E0 := by
  obtain ⟨a, fd, F, m, G⟩ := ok_all (P := l.prog) (w := w) c
  obtain rfl : a = fa := by
    have e := m.symm.trans hfa
    cases e
    rfl
  refine ⟨fd, _, ?_, fun base _ _ => G base, fun H a' ns _ hS => ?_⟩
  · obtain ⟨oc, od, kV, doc, pm, an, cdv, ct, osl, rfl, lk, hcd⟩ := F.ex
    exact fun s u => .of_eq rfl
  · refine start_ok (qs := [q]) (cs := [PR]) 1 rfl rfl (by decide) (List.prefix_refl _) (fun xs => by simp [PR]) (fun i o e => ?_) hS (law_ok ns)
    match i, e with
    | 0, e =>
      cases e
      exact ⟨q, rfl, _, .inr ⟨_, _, _, lq, rfl, rfl, (by show 5 ≤ sizeLine; decide), .cons (a := V.int 3) ⟨_, rfl⟩ (.cons (a := V.int 5) ⟨_, rfl⟩ (.cons (a := V.int 7) ⟨_, rfl⟩ (.cons (a := V.int 11) ⟨_, rfl⟩ (.cons (a := V.int 13) ⟨_, rfl⟩ .nil))))⟩, .cons rfl (.cons rfl (.cons rfl (.cons rfl (.cons rfl .nil))))⟩
end RM
set_option maxRecDepth 100000
open PySem PySem.W PyProof.Rows
set_option maxHeartbeats 0 in
theorem PySem.Challenge.cw_restkeepers_k11_whole_rests_holds : PySem.Challenge.rw_restkeepers_k11_whole_rests.Holds := by
  w_on; o_law; k_head; (case hw => w_witness2)
  k_fill
  refine RI.walk_g (l := PySem.Challenge.rw_restkeepers_k11_whole_rests) (n := 63) (k := 8) (x := "_law_script") rfl (by decide) rfl ⟨rfl, by decide, by decide⟩ (fun w h Y => PySem.W.kIn_of Y) ?F
  case F =>
    intro w mg fa h KX G hmg
    refine' RM.fin_mk hmg (RL.facts_mk KX G ?a0 ?l0 ?c0 ?k0 ?a1 ?l1 ?c1 ?k1 ?a2 ?l2 ?c2 ?k2 ?a3 ?l3 ?c3 ?k3 ?a4 ?l4 ?c4 ?k4 ?a5 ?l5 ?c5 ?k5 ?a6 ?l6 ?c6 ?k6 ?a7 ?l7 ?c7 ?k7 ?a8 ?l8 ?c8 ?k8 ?a9 ?l9 ?c9 ?k9 ?a10 ?l10 ?c10 ?k10 ?a11 ?l11 ?c11 ?k11 ?a12 ?l12 ?c12 ?k12 ?a13 ?l13 ?c13 ?k13 ?a14 ?l14 ?c14 ?k14 ?a15 ?l15 ?c15 ?k15 ?a16 ?l16 ?c16 ?k16 ?a17 ?l17 ?c17 ?k17 ?a18 ?l18 ?c18 ?k18 ?z_abs ?z_bool ?z_divmod ?z_int ?z_isinstance ?z_len ?z_max ?z_range ?z_repr ?x0) ?lq
    (case a0 => k_is)
    (case l0 => k_is)
    (case c0 => k_is)
    (case k0 => k_is)
    (case a1 => k_is)
    (case l1 => k_is)
    (case c1 => k_is)
    (case k1 => k_is)
    (case a2 => k_is)
    (case l2 => k_is)
    (case c2 => k_is)
    (case k2 => k_is)
    (case a3 => k_is)
    (case l3 => k_is)
    (case c3 => k_is)
    (case k3 => k_is)
    (case a4 => k_is)
    (case l4 => k_is)
    (case c4 => k_is)
    (case k4 => k_is)
    (case a5 => k_is)
    (case l5 => k_is)
    (case c5 => k_is)
    (case k5 => k_is)
    (case a6 => k_is)
    (case l6 => k_is)
    (case c6 => k_is)
    (case k6 => k_is)
    (case a7 => k_is)
    (case l7 => k_is)
    (case c7 => k_is)
    (case k7 => k_is)
    (case a8 => k_is)
    (case l8 => k_is)
    (case c8 => k_is)
    (case k8 => k_is)
    (case a9 => k_is)
    (case l9 => k_is)
    (case c9 => k_is)
    (case k9 => k_is)
    (case a10 => k_is)
    (case l10 => k_is)
    (case c10 => k_is)
    (case k10 => k_is)
    (case a11 => k_is)
    (case l11 => k_is)
    (case c11 => k_is)
    (case k11 => k_is)
    (case a12 => k_is)
    (case l12 => k_is)
    (case c12 => k_is)
    (case k12 => k_is)
    (case a13 => k_is)
    (case l13 => k_is)
    (case c13 => k_is)
    (case k13 => k_is)
    (case a14 => k_is)
    (case l14 => k_is)
    (case c14 => k_is)
    (case k14 => k_is)
    (case a15 => k_is)
    (case l15 => k_is)
    (case c15 => k_is)
    (case k15 => k_is)
    (case a16 => k_is)
    (case l16 => k_is)
    (case c16 => k_is)
    (case k16 => k_is)
    (case a17 => k_is)
    (case l17 => k_is)
    (case c17 => k_is)
    (case k17 => k_is)
    (case a18 => k_is)
    (case l18 => k_is)
    (case c18 => k_is)
    (case k18 => k_is)
    (case z_abs => k_is)
    (case z_bool => k_is)
    (case z_divmod => k_is)
    (case z_int => k_is)
    (case z_isinstance => k_is)
    (case z_len => k_is)
    (case z_max => k_is)
    (case z_range => k_is)
    (case z_repr => k_is)
    (case x0 => k_is)
    (case lq => k_is)
