import PyProof.Rows.All
import Wide.All
import OpenK.AllK
import Wide.FinOn
import HandS.ForMost
import HandS.ForExc
import HandS.CallSlots
import HandS.Defaults
import HandS.Wide
import HandS.Lambda
import HandS.Flow
import HandS.Style
import HandS.TupAny
import HandS.IsInst
import HandS.More
import HandS.Exc
import HandS.ExcOwn
import HandS.Star
import HandS.Property
import KE.DataEq
import HandS.ExcInit
import HandS.TryOnly
import HandS.ExcIs
import HandS.ExcField
import HandS.Comp
import HandS.FStr
import KE.KCallOwn
import PyProof.InstNe
import HandS.RaiseMore
import HandS.MakeKw
import PyProof.ReprRoads
import PyProof.FactsAll.dict
import HandS.HeadHook4
import HandS.HeadWalk
import HandS.Head2
import HandS.ClsMeth
import HandS.HeadNt
import HandS.New0
import HandS.HeadHook3
import HandS.OwnEq
import HandS.Zip
import PyProof.StrOps2
import KE.KOpsOwn
import HandS.IterVal
import HandS.OwnIter
import KE.KExcIs
import HandS.NamedTupSort
import HandS.New
import PySem.Challenge.RW_markedpair_k14_channels_made_and_refused
set_option Elab.async false
set_option linter.all false
set_option maxRecDepth 100000
set_option maxHeartbeats 4000000
/-! A small language of values and a store, and what it says of the layer's readings. -/
namespace Mp
open PySem PySem.Spec PyProof.Rows L2
/-! ### values, the store, results -/
inductive W where
  | non | bl (b : Bool) | int (i : Int) | str (x : Str)
  | tup (xs : List W) | ins (c : Nat) (fs : List W) | exc (c : Nat) (fs : List W)
  | loc (l : Nat) | glo (g : Nat) | ty (n : String) | adr (a : Addr)
  deriving Inhabited
inductive Ob where
  | lst (xs : List W) | dct (kvs : List (Key × W)) | obj (c : Nat) (fs : List W) | dead
  deriving Inhabited
abbrev Sto := List Ob
inductive Res (α : Type) where
  | ok (a : α) (S : Sto) | exc (c : Nat) (fs : List W) (S : Sto) | stuck
abbrev M (α : Type) := Sto → Res α
@[simp] def Res.bind {α β : Type} : Res α → (α → M β) → Res β
  | .ok a S, f => f a S
  | .exc c fs S, _ => .exc c fs S
  | .stuck, _ => .stuck
abbrev LSt := List (Option W)
inductive SRes where
  | nx (s : LSt) (S : Sto) | rt (v : W) (S : Sto) | bk (s : LSt) (S : Sto) | ct (s : LSt) (S : Sto)
  | exc (c : Nat) (fs : List W) (s : LSt) (S : Sto) | stuck
/-- what the text's top has made: the classes' addresses, their attributes in order, other objects -/
structure Gb where
  K : PySem.W.Frag
  cls : Nat → Addr
  flds : Nat → List Str
  glo : Nat → Addr
/-- where the store's places stand, and which of them nobody writes any more -/
structure Rho where
  pl : Nat → Option Addr
  fz : Nat → Bool
instance : CoeFun Rho (fun _ => Nat → Option Addr) := ⟨Rho.pl⟩
def Cold (ρ : Rho) (a : Addr) : Prop := ∀ l, ρ.fz l = false → ρ l ≠ some a
def WrT (K : PySem.W.Frag) (a : Addr) (xs : List V) : Prop :=
  ∃ (o : Obj) (its : Array Value) (n : Nat), K.lookup a = some o ∧ o.cls = .type "tuple" ∧ o.data = .seq its n ∧ its.size ≤ sizeLine ∧ Vals xs its.toList
def TupAt (K : PySem.W.Frag) (ρ : Rho) (H : Hp) (a : Addr) (xs : List V) : Prop := (Cold ρ a ∧ Rd H a (.tup xs)) ∨ WrT K a xs
theorem TupAt.sq {K ρ H a xs} (h : TupAt K ρ H a xs) : SqT K H a xs := by
  rcases h with h | h
  · exact .inl h.2
  · exact .inr h
/-- the class number c's instance at a, its attributes -/
def InsAt (G : Gb) (ρ : Rho) (H : Hp) (a : Addr) (c : Nat) (xs : List V) : Prop := Cold ρ a ∧ xs.length = (G.flds c).length ∧ ∃ dx, H a = some (.ins (G.cls c) dx ((G.flds c).zip xs))
/-- an exception that was caught and kept -/
def exv (a : Addr) (cls : Value) (d : Option Addr) : HO := .ext fun h => ∃ oe vs, h.get? a = some oe ∧ oe.cls = cls ∧ oe.dict = d ∧ oe.data = .fields vs
mutual
def RelW (G : Gb) (ρ : Rho) (H : Hp) : W → V → Prop
  | .non, x => x = .non
  | .bl b, x => x = .bl b
  | .int i, x => x = .int i
  | .str z, x => x = .str z
  | .tup ws, x => ∃ a xs, x = .ref a ∧ TupAt G.K ρ H a xs ∧ RelWs G ρ H ws xs
  | .ins c ws, x => ∃ a xs, x = .ref a ∧ InsAt G ρ H a c xs ∧ RelWs G ρ H ws xs
  | .exc c ws, x => ∃ a d, x = .ref a ∧ Cold ρ a ∧ H a = some (exv a (.ref (G.cls c)) d) ∧ ((G.flds c = [] ∧ ws = [] ∧ d = none) ∨ ∃ d0 xs, d = some d0 ∧ RelWs G ρ H ws xs ∧ xs.length = (G.flds c).length ∧ H d0 = some (.xd ((G.flds c).zip xs)) ∧ Cold ρ d0)
  | .loc l, x => ∃ a, ρ l = some a ∧ x = .ref a
  | .glo g, x => x = .ref (G.glo g)
  | .ty n, x => x = .ty n
  | .adr a, x => x = .ref a
def RelWs (G : Gb) (ρ : Rho) (H : Hp) : List W → List V → Prop
  | [], xs => xs = []
  | w :: ws, xs => ∃ y ys, xs = y :: ys ∧ RelW G ρ H w y ∧ RelWs G ρ H ws ys
end
def noT : HO → Bool
  | .tbl _ => false
  | _ => true
/-- nothing of ours at a, or a table of code objects -/
def NT (H : Hp) (a : Addr) : Prop := ∀ o, H a = some o → noT o = false
structure Step (ρ : Rho) (H : Hp) (ρ' : Rho) (H' : Hp) : Prop where
  sub : ∀ l a, ρ l = some a → ρ' l = some a
  new : ∀ l a, ρ' l = some a → ρ l = some a ∨ NT H a
  kp : ∀ a o, H a = some o → Cold ρ a → noT o = true → H' a = some o
  back : ∀ a, NT H' a → NT H a
  fzs : ∀ l, ρ.fz l = true → ρ'.fz l = true
theorem Step.refl {ρ H} : Step ρ H ρ H := ⟨fun _ _ h => h, fun _ _ h => .inl h, fun _ _ h _ _ => h, fun _ h => h, fun _ h => h⟩
theorem Step.keep {ρ H ρ' H'} (s : Step ρ H ρ' H') (a : Addr) (o : HO) (h : H a = some o) (c : Cold ρ a) (n : noT o = true := by rfl) : H' a = some o := s.kp a o h c n
theorem Step.cold {ρ H ρ' H' a o} (s : Step ρ H ρ' H') (h : H a = some o) (c : Cold ρ a) (n : noT o = true := by rfl) : Cold ρ' a := fun l z e => by
  rcases s.new l a e with h1 | h1
  · refine c l ?_ h1
    cases q : ρ.fz l with
    | false => rfl
    | true => rw [s.fzs l q] at z; cases z
  · have := h1 o h; rw [n] at this; cases this
theorem Step.trans {ρ H ρ1 H1 ρ2 H2} (s : Step ρ H ρ1 H1) (t : Step ρ1 H1 ρ2 H2) : Step ρ H ρ2 H2 := by
  refine ⟨fun l a e => t.sub l a (s.sub l a e), fun l a e => ?_, fun a o e c n => t.kp a o (s.kp a o e c n) (s.cold e c n) n, fun a e => s.back a (t.back a e), fun l e => t.fzs l (s.fzs l e)⟩
  rcases t.new l a e with h1 | h1
  · exact s.new l a h1
  · exact .inr (s.back a h1)
theorem Rd.step {ρ H ρ' H' a u} (s : Step ρ H ρ' H') (c : Cold ρ a) (h : Rd H a u) (n : noT u = true := by rfl) : Cold ρ' a ∧ Rd H' a u := by
  rcases h with h | ⟨o, h⟩
  · exact ⟨s.cold h c n, .inl (s.keep a _ h c n)⟩
  · exact ⟨s.cold h c, .inr ⟨o, s.keep a _ h c⟩⟩
theorem TupAt.step {K ρ H ρ' H' a xs} (s : Step ρ H ρ' H') (h : TupAt K ρ H a xs) : TupAt K ρ' H' a xs := by
  rcases h with ⟨c, h⟩ | h
  · exact .inl (Rd.step s c h)
  · exact .inr h
theorem InsAt.step {G : Gb} {ρ H ρ' H' a c xs} (s : Step ρ H ρ' H') (h : InsAt G ρ H a c xs) : InsAt G ρ' H' a c xs := by
  obtain ⟨c1, n, dx, h⟩ := h
  exact ⟨s.cold h c1, n, dx, s.keep a _ h c1⟩
mutual
theorem RelW.step {G : Gb} {ρ H ρ' H'} (s : Step ρ H ρ' H') : ∀ {w : W} {x : V}, RelW G ρ H w x → RelW G ρ' H' w x
  | .non, _, h => h
  | .bl _, _, h => h
  | .int _, _, h => h
  | .str _, _, h => h
  | .tup _, _, ⟨a, xs, e, t, r⟩ => ⟨a, xs, e, t.step s, RelWs.step s r⟩
  | .ins _ _, _, ⟨a, xs, e, t, r⟩ => ⟨a, xs, e, t.step s, RelWs.step s r⟩
  | .exc _ _, _, ⟨a, d, e, c, ha, h⟩ => ⟨a, d, e, s.cold ha c, s.keep a _ ha c, by
    rcases h with h | ⟨d0, xs, e1, r, l, hd, c0⟩
    · exact .inl h
    · exact .inr ⟨d0, xs, e1, RelWs.step s r, l, s.keep d0 _ hd c0, s.cold hd c0⟩⟩
  | .loc l, _, ⟨a, e, h⟩ => ⟨a, s.sub l a e, h⟩
  | .glo _, _, h => h
  | .ty _, _, h => h
  | .adr _, _, h => h
theorem RelWs.step {G : Gb} {ρ H ρ' H'} (s : Step ρ H ρ' H') : ∀ {ws : List W} {xs : List V}, RelWs G ρ H ws xs → RelWs G ρ' H' ws xs
  | [], _, h => h
  | _ :: _, _, ⟨y, ys, e, h, r⟩ => ⟨y, ys, e, RelW.step s h, RelWs.step s r⟩
end
theorem RelWs.len {G : Gb} {ρ H} : ∀ {ws : List W} {xs : List V}, RelWs G ρ H ws xs → ws.length = xs.length
  | [], _, h => by subst h; rfl
  | _ :: ws, _, ⟨y, ys, e, _, r⟩ => by subst e; simp [RelWs.len r]
theorem RelWs.get {G : Gb} {ρ H} : ∀ {ws : List W} {xs : List V} {i : Nat} {w : W}, RelWs G ρ H ws xs → ws[i]? = some w → ∃ x, xs[i]? = some x ∧ RelW G ρ H w x
  | [], _, _, _, _, e => by simp at e
  | w :: ws, _, 0, _, ⟨y, ys, e, h, r⟩, q => by subst e; simp at q; subst q; exact ⟨y, by simp, h⟩
  | w :: ws, _, i + 1, _, ⟨y, ys, e, h, r⟩, q => by
    subst e
    obtain ⟨x, h1, h2⟩ := RelWs.get (i := i) r (by simpa using q)
    exact ⟨x, by simpa using h1, h2⟩
theorem RelWs.append {G : Gb} {ρ H} : ∀ {ws us : List W} {xs ys : List V}, RelWs G ρ H ws xs → RelWs G ρ H us ys → RelWs G ρ H (ws ++ us) (xs ++ ys)
  | [], _, _, _, h, k => by subst h; simpa using k
  | w :: ws, _, _, _, ⟨y, ys, e, h, r⟩, k => by subst e; exact ⟨y, _, rfl, h, RelWs.append r k⟩
theorem RelWs.set {G : Gb} {ρ H} {w : W} {x : V} (q : RelW G ρ H w x) : ∀ {ws : List W} {xs : List V} (i : Nat), RelWs G ρ H ws xs → RelWs G ρ H (ws.set i w) (xs.set i x)
  | [], _, _, h => by subst h; exact rfl
  | _ :: _, _, 0, ⟨y, ys, e, h, r⟩ => by subst e; exact ⟨x, ys, rfl, q, r⟩
  | _ :: _, _, i + 1, ⟨y, ys, e, h, r⟩ => by subst e; exact ⟨y, _, rfl, h, RelWs.set q i r⟩
/-- a slot list -/
def RelS (G : Gb) (ρ : Rho) (H : Hp) (ls : LSt) (σ : L2.St) : Prop := ls.length = σ.length ∧ ∀ (i : Nat) (w : W), ls[i]? = some (some w) → ∃ x, σ[i]? = some (some x) ∧ RelW G ρ H w x
theorem RelS.step {G : Gb} {ρ H ρ' H' ls σ} (s : Step ρ H ρ' H') (h : RelS G ρ H ls σ) : RelS G ρ' H' ls σ := ⟨h.1, fun i w e => let ⟨x, a, b⟩ := h.2 i w e; ⟨x, a, b.step s⟩⟩
theorem RelS.set {G : Gb} {ρ H ls σ w x} (h : RelS G ρ H ls σ) (r : RelW G ρ H w x) (i : Nat) : RelS G ρ H (ls.set i (some w)) (σ.set i (some x)) := by
  refine ⟨by simp [h.1], fun j u e => ?_⟩
  by_cases hj : i = j
  · subst hj
    have hi : i < ls.length := by
      rcases Nat.lt_or_ge i ls.length with q | q
      · exact q
      · rw [List.getElem?_eq_none (by simpa using q)] at e; cases e
    rw [List.getElem?_set_self hi] at e
    cases e
    exact ⟨x, List.getElem?_set_self (by rw [← h.1]; exact hi), r⟩
  · rw [List.getElem?_set_ne hj] at e ⊢
    exact h.2 j u e
/-- what stands at the store's place l -/
def RelOb (G : Gb) (ρ : Rho) (H : Hp) (l : Nat) : Ob → Prop
  | .lst ws => ∃ a xs, ρ l = some a ∧ H a = some (.lst xs) ∧ RelWs G ρ H ws xs
  | .dct kvs => ∃ a xs, ρ l = some a ∧ H a = some (.dK ((kvs.map (·.1)).zip xs)) ∧ xs.length = kvs.length ∧ RelWs G ρ H (kvs.map (·.2)) xs
  | .obj c fs => ∃ a xs dx, ρ l = some a ∧ H a = some (.ins (G.cls c) dx (((G.flds c).take fs.length).zip xs)) ∧ fs.length ≤ (G.flds c).length ∧ RelWs G ρ H fs xs
  | .dead => True
/-- and what holds besides, as long as nothing else is written -/
structure Gi extends Gb where
  T : List (Addr × Str)
  inv : Rho → Hp → Prop
  stab : ∀ {ρ H ρ' H'}, Step ρ H ρ' H' → inv ρ H → inv ρ' H'
instance : Coe Gi Gb := ⟨Gi.toGb⟩
def okO : HO → Bool
  | .lst _ | .dK _ | .ins _ _ _ => true
  | _ => false
/-- a place's object -/
def Wm (H : Hp) (a : Addr) : Prop := ∃ o, H a = some o ∧ okO o = true
theorem Wm.ne {H : Hp} {a : Addr} (h : Wm H a) : H a ≠ none := fun z => by
  obtain ⟨o, e, _⟩ := h
  rw [z] at e; cases e
theorem okO_T {o : HO} (h : okO o = true) : noT o = true := by cases o <;> first | rfl | cases h
structure RelH (G : Gi) (ρ : Rho) (H : Hp) (S : Sto) : Prop where
  inj : ∀ l l' a, ρ l = some a → ρ l' = some a → l = l'
  dmn : ∀ l a, ρ l = some a → l < S.length ∧ Wm H a
  at_ : ∀ l ob, S[l]? = some ob → RelOb G ρ H l ob
  hot : ∀ l, ρ.fz l = true → S[l]? = some .dead
  tabs : LamX.Tabs G.T H
  inv : G.inv ρ H
theorem RelH.dom {G : Gi} {ρ H S} (h : RelH G ρ H S) (l : Nat) (a : Addr) (e : ρ l = some a) : l < S.length ∧ H a ≠ none := by
  obtain ⟨h1, o, h2, _⟩ := h.dmn l a e
  exact ⟨h1, by rw [h2]; simp⟩
theorem RelH.warm {G : Gi} {ρ H S l ob} (h : RelH G ρ H S) (e : S[l]? = some ob) (n : ob ≠ .dead) : ρ.fz l = false := by
  cases q : ρ.fz l with
  | false => rfl
  | true => rw [h.hot l q] at e; cases e; exact absurd rfl n
/-- the dict of an exception of class c -/
def XdAt (G : Gb) (ρ : Rho) (H : Hp) (c : Nat) (fs : List W) (d : Option Addr) : Prop := (G.flds c = [] ∧ fs = [] ∧ d = none) ∨ ∃ d0 xs, d = some d0 ∧ RelWs G ρ H fs xs ∧ xs.length = (G.flds c).length ∧ H d0 = some (.xd ((G.flds c).zip xs)) ∧ Cold ρ d0
/-- the end of a run from (ρ, H): Q of the value, the store, the new correspondence, heap; E of the exception -/
def Post {α : Type} (G : Gi) (ρ : Rho) (H : Hp) (r : Res α) (Q : α → Sto → Rho → Hp → Prop) (E : Value → Option Addr → Hp → Prop) : Prop := match r with
  | .ok a S' => ∀ ρ' H', Step ρ H ρ' H' → RelH G ρ' H' S' → Q a S' ρ' H'
  | .exc c fs S' => ∀ ρ' H' d, Step ρ H ρ' H' → RelH G ρ' H' S' → XdAt G ρ' H' c fs d → E (.ref (G.cls c)) d H'
  | .stuck => False
theorem Post.step {α : Type} {G : Gi} {ρ H ρ1 H1} {r : Res α} {Q E} (s : Step ρ H ρ1 H1) (h : Post G ρ H r Q E) : Post G ρ1 H1 r Q E := by
  cases r with
  | ok a S' => exact fun ρ' H' t k => h ρ' H' (s.trans t) k
  | exc c fs S' => exact fun ρ' H' d t k => h ρ' H' d (s.trans t) k
  | stuck => exact h
theorem Post.mono {α : Type} {G : Gi} {ρ H} {r : Res α} {Q Q' E} (h : Post G ρ H r Q E) (hq : ∀ a S' ρ' H', Step ρ H ρ' H' → RelH G ρ' H' S' → Q a S' ρ' H' → Q' a S' ρ' H') : Post G ρ H r Q' E := by
  cases r with
  | ok a S' => exact fun ρ' H' t k => hq a S' ρ' H' t k (h ρ' H' t k)
  | exc c fs S' => exact h
  | stuck => exact h
/-- one part, then the rest -/
theorem Post.bind {α β : Type} {G : Gi} {ρ H} {r : Res α} {f : α → M β} {Q E} (h : Post G ρ H (r.bind f) Q E) : Post G ρ H r (fun a S1 ρ1 H1 => Post G ρ1 H1 (f a S1) Q E) E := by
  cases r with
  | ok a S' => exact fun ρ' H' t k => Post.step t h
  | exc c fs S' => exact h
  | stuck => exact h
/-- operators that raise nothing -/
@[simp] def NoX {α : Type} (r : Res α) : Res α := match r with
  | .ok a S => .ok a S
  | _ => .stuck
theorem NoX_post {α : Type} {G : Gi} {ρ H} {r : Res α} {Q E E'} (h : Post G ρ H (NoX r) Q E) : Post G ρ H r Q E' := by
  cases r with
  | ok a S => exact h
  | exc c fs S => exact h.elim
  | stuck => exact h
/-! ### readings by such functions -/
abbrev EM := LSt → M W
abbrev AM := LSt → M (List W)
abbrev TM := LSt → M Bool
abbrev SM := LSt → Sto → SRes
def QW (G : Gi) (Q : VK) : W → Sto → Rho → Hp → Prop := fun v _ ρ' H' => ∀ x, RelW G ρ' H' v x → Q x H'
def QWs (G : Gi) (Q : List V → Hp → Prop) : List W → Sto → Rho → Hp → Prop := fun v _ ρ' H' => ∀ x, RelWs G ρ' H' v x → Q x H'
def QB (Q : Bool → Hp → Prop) : Bool → Sto → Rho → Hp → Prop := fun v _ _ H' => Q v H'
def upE (G : Gi) (X : WX) (f : EM) : TE := fun σ H Q => ∃ ρ ls S, RelS G ρ H ls σ ∧ RelH G ρ H S ∧ Post G ρ H (f ls S) (QW G Q) fun c d H' => X c d σ H'
def upA (G : Gi) (X : WX) (f : AM) : TA := fun σ H Q => ∃ ρ ls S, RelS G ρ H ls σ ∧ RelH G ρ H S ∧ Post G ρ H (f ls S) (QWs G Q) fun c d H' => X c d σ H'
def upT (G : Gi) (X : WX) (f : TM) : TT := fun σ H Q => ∃ ρ ls S, RelS G ρ H ls σ ∧ RelH G ρ H S ∧ Post G ρ H (f ls S) (QB Q) fun c d H' => X c d σ H'
abbrev NoE : Value → Option Addr → Hp → Prop := fun _ _ _ => False
def upR (G : Gi) (op : W → W → M W) : R2 := fun x y H Q => ∃ ρ v u S, RelW G ρ H v x ∧ RelW G ρ H u y ∧ RelH G ρ H S ∧ Post G ρ H (op v u S) (QW G Q) NoE
def upU (G : Gi) (op : W → M W) : V → Hp → VK → Prop := fun x H Q => ∃ ρ v S, RelW G ρ H v x ∧ RelH G ρ H S ∧ Post G ρ H (op v S) (QW G Q) NoE
def upB (G : Gi) (op : W → M Bool) : V → Hp → (Bool → Hp → Prop) → Prop := fun x H Q => ∃ ρ v S, RelW G ρ H v x ∧ RelH G ρ H S ∧ Post G ρ H (op v S) (QB Q) NoE
def upC (G : Gi) (op : List W → M W) : List V → Hp → VK → Prop := fun xs H Q => ∃ ρ vs S, RelWs G ρ H vs xs ∧ RelH G ρ H S ∧ Post G ρ H (op vs S) (QW G Q) NoE
def PostS (G : Gi) (ρ : Rho) (H : Hp) (X : WX) (D : Ends) : SRes → Prop
  | .nx ls' S' => ∀ ρ' H' σ', Step ρ H ρ' H' → RelH G ρ' H' S' → RelS G ρ' H' ls' σ' → D.nx σ' H'
  | .rt v S' => ∀ ρ' H' x, Step ρ H ρ' H' → RelH G ρ' H' S' → RelW G ρ' H' v x → D.rt x H'
  | .bk ls' S' => ∀ ρ' H' σ', Step ρ H ρ' H' → RelH G ρ' H' S' → RelS G ρ' H' ls' σ' → D.bk σ' H'
  | .ct ls' S' => ∀ ρ' H' σ', Step ρ H ρ' H' → RelH G ρ' H' S' → RelS G ρ' H' ls' σ' → D.ct σ' H'
  | .exc c fs ls' S' => ∀ ρ' H' σ' d, Step ρ H ρ' H' → RelH G ρ' H' S' → RelS G ρ' H' ls' σ' → XdAt G ρ' H' c fs d → X (.ref (G.cls c)) d σ' H'
  | .stuck => False
theorem PostS.step {G : Gi} {ρ H ρ1 H1} {X : WX} {D : Ends} {r : SRes} (s : Step ρ H ρ1 H1) (h : PostS G ρ H X D r) : PostS G ρ1 H1 X D r := by
  cases r with
  | nx ls S => exact fun ρ' H' σ' t => h ρ' H' σ' (s.trans t)
  | rt v S => exact fun ρ' H' x t => h ρ' H' x (s.trans t)
  | bk ls S => exact fun ρ' H' σ' t => h ρ' H' σ' (s.trans t)
  | ct ls S => exact fun ρ' H' σ' t => h ρ' H' σ' (s.trans t)
  | exc c fs ls S => exact fun ρ' H' σ' d t => h ρ' H' σ' d (s.trans t)
  | stuck => exact h
def upS (G : Gi) (X : WX) (m : SM) : TS := fun D σ H => ∃ ρ ls S, RelS G ρ H ls σ ∧ RelH G ρ H S ∧ PostS G ρ H X D (m ls S)
theorem PE.imp {X : Cx} {e : Expr} {t t' : TE} (h : ∀ σ H Q, t' σ H Q → t σ H Q) (p : PE X e t) : PE X e t' := ⟨fun pins s σ H Q I q => p.run pins s σ H Q I (h σ H Q q)⟩
theorem PT.imp {X : Cx} {e : Expr} {t t' : TT} (h : ∀ σ H Q, t' σ H Q → t σ H Q) (p : PT X e t) : PT X e t' := ⟨fun pins s σ H Q I q => p.run pins s σ H Q I (h σ H Q q)⟩
theorem PA.imp {X : Cx} {e : List Expr} {t t' : TA} (h : ∀ σ H Q, t' σ H Q → t σ H Q) (p : PA X e t) : PA X e t' := ⟨fun pos pins s σ H Q I q => p.run pos pins s σ H Q I (h σ H Q q)⟩
theorem PS.imp {X : Cx} {e : Stmt} {t t' : TS} (h : ∀ D σ H, t' D σ H → t D σ H) (p : PS X e t) : PS X e t' := ⟨fun pins s σ H D I q => p.run pins s σ H D I (h D σ H q)⟩
theorem PSs.imp {X : Cx} {e : List Stmt} {t t' : TS} (h : ∀ D σ H, t' D σ H → t D σ H) (p : PSs X e t) : PSs X e t' := ⟨fun pins s σ H D I q => p.run pins s σ H D I (h D σ H q)⟩
theorem OpR.imp {X : Cx} {f : Value → Value → Sem Value} {r r' : R2} (h : ∀ x y H Q, r' x y H Q → r x y H Q) (p : OpR X f r) : OpR X f r' := fun pins s σ H x y v u Q I rx ry q => p pins s σ H x y v u Q I rx ry (h x y H Q q)
section
variable {X : Cx} {G : Gi} {Wx : WX} {a b c : Expr} {fa fb fc : EM} {pos : Pos} {es : List Expr} {fs : AM}
/-! ### names, constants -/
@[simp] def vget (i : Nat) : EM := fun ls S => match ls[i]? with
  | some (some w) => .ok w S
  | _ => .stuck
theorem e_var {i : Nat} {x : Str} (h : PE X (.Name x pos) (tVar i)) : PE X (.Name x pos) (upE G Wx (vget i)) := PE.imp (fun σ H Q ⟨ρ, ls, S, hs, hh, hp⟩ => by
  unfold vget at hp
  cases q : ls[i]? with
  | none => rw [q] at hp; exact hp.elim
  | some o =>
    cases o with
    | none => rw [q] at hp; exact hp.elim
    | some w =>
      rw [q] at hp
      obtain ⟨x, h1, h2⟩ := hs.2 i w q
      exact ⟨x, h1, hp ρ H .refl hh x h2⟩) h
@[simp] def cst (w : W) : EM := fun _ S => .ok w S
theorem e_c {e : Expr} {w : W} {v : V} (h : PE X e (tC v)) (r : ∀ ρ H, RelW G ρ H w v) : PE X e (upE G Wx (cst w)) := PE.imp (fun σ H Q ⟨ρ, ls, S, hs, hh, hp⟩ => hp ρ H .refl hh v (r ρ H)) h
/-! ### two parts -/
@[simp] def bin (op : W → W → M W) (fa fb : EM) : EM := fun ls S => (fa ls S).bind fun v S1 => (fb ls S1).bind fun u S2 => NoX (op v u S2)
theorem tOp_of {op : W → W → M W} : ∀ σ H Q, upE G Wx (bin op fa fb) σ H Q → tOp (upR G op) (upE G Wx fa) (upE G Wx fb) σ H Q := fun σ H Q ⟨ρ, ls, S, hs, hh, hp⟩ =>
  ⟨ρ, ls, S, hs, hh, (Post.bind hp).mono fun v S1 ρ1 H1 s1 h1 q x rx => ⟨ρ1, ls, S1, hs.step s1, h1, (Post.bind q).mono fun u S2 ρ2 H2 s2 h2 q2 y ry => ⟨ρ2, v, u, S2, rx.step s2, ry, h2, NoX_post q2⟩⟩⟩
theorem e_bin {op : Operator} {o : W → W → M W} (ho : OpR X (binaryOp op) (upR G o)) (ha : PE X a (upE G Wx fa)) (hb : PE X b (upE G Wx fb)) : PE X (.BinOp a op b pos) (upE G Wx (bin o fa fb)) :=
  PE.imp tOp_of (pe_op ho ha hb)
theorem e_cmp {op : CmpOp} {o : W → W → M W} (ho : OpR X (compareOp op) (upR G o)) (ha : PE X a (upE G Wx fa)) (hb : PE X b (upE G Wx fb)) (hm : behindInMarks op b = false) : PE X (.Compare a [op] [b] pos) (upE G Wx (bin o fa fb)) :=
  PE.imp tOp_of (pe_cmpR ho ha hb hm)
end
end Mp
set_option Elab.async false
set_option linter.all false
set_option maxRecDepth 100000
set_option maxHeartbeats 4000000
namespace Mp
open PySem PySem.Spec PyProof.Rows L2
section
variable {X : Cx} {G : Gi} {Wx : WX} {a b c : Expr} {fa fb fc : EM} {pos : Pos} {es rest : List Expr} {fs : AM} {ta tb : TM}
/-! ### truth -/
def big : Nat := 1000000
theorem big_le : big ≤ sizeLine := by rw [sizeLine_eq]; decide
theorem le_line {n : Nat} (h : n ≤ big) : n ≤ sizeLine := Nat.le_trans h big_le
@[simp] def truth : W → M Bool
  | .non, S => .ok false S
  | .bl b, S => .ok b S
  | .int i, S => .ok (i != 0) S
  | .str z, S => if z.length ≤ big then .ok ((z.length : Int) != 0) S else .stuck
  | .tup ws, S => .ok (!ws.isEmpty) S
  | .loc l, S => match S[l]? with
    | some (.lst ws) => .ok (!ws.isEmpty) S
    | some (.dct kvs) => .ok (!kvs.isEmpty) S
    | _ => .stuck
  | _, _ => .stuck
theorem isEmpty_len {α β : Type} {l : List α} {m : List β} (h : l.length = m.length) : l.isEmpty = m.isEmpty := by
  cases l <;> cases m <;> simp_all
theorem truV_of {K : PySem.W.Frag} (hK : G.K = K) {ρ H w x S Q} (r : RelW G ρ H w x) (hh : RelH G ρ H S) (hp : Post G ρ H (truth w S) (QB Q) NoE) : ∃ k, TruV K x H k ∧ Q k H := by
  subst hK
  cases w with
  | non => cases r; exact ⟨_, rfl, hp ρ H .refl hh⟩
  | bl b => cases r; exact ⟨_, rfl, hp ρ H .refl hh⟩
  | int i => cases r; exact ⟨_, rfl, hp ρ H .refl hh⟩
  | str z =>
    cases r
    by_cases hz : z.length ≤ big
    · simp only [truth, if_pos hz] at hp
      exact ⟨_, ⟨le_line hz, rfl⟩, hp ρ H .refl hh⟩
    · simp only [truth, if_neg hz] at hp
      exact hp.elim
  | tup ws =>
    obtain ⟨a, xs, rfl, t, rs⟩ := r
    have := hp ρ H .refl hh
    rw [isEmpty_len rs.len] at this
    exact ⟨_, .inr (.inl ⟨xs, t.sq, rfl⟩), this⟩
  | loc l =>
    obtain ⟨a, ea, rfl⟩ := r
    simp only [truth] at hp
    cases q : S[l]? with
    | none => rw [q] at hp; exact hp.elim
    | some ob =>
      have ho := hh.at_ l ob q
      cases ob with
      | lst ws =>
        rw [q] at hp
        obtain ⟨a', xs, e1, e2, rs⟩ := ho
        rw [ea] at e1; cases e1
        have := hp ρ H .refl hh
        rw [isEmpty_len rs.len] at this
        exact ⟨_, .inl ⟨xs, .of e2, rfl⟩, this⟩
      | dct kvs =>
        rw [q] at hp
        obtain ⟨a', xs, e1, e2, el, rs⟩ := ho
        rw [ea] at e1; cases e1
        have := hp ρ H .refl hh
        refine ⟨_, .inr (.inr ⟨_, e2, rfl⟩), ?_⟩
        rw [isEmpty_len (l := (kvs.map (·.1)).zip xs) (m := kvs) (by simp [el])]
        exact this
      | obj c fs => rw [q] at hp; exact hp.elim
      | dead => rw [q] at hp; exact hp.elim
  | _ => exact hp.elim
@[simp] def tst (f : EM) : TM := fun ls S => (f ls S).bind fun v S1 => NoX (truth v S1)
theorem t_val (hK : G.K = X.K) (h : PE X a (upE G Wx fa)) (he : ∀ whole, isTrue a X.env whole = (do let v ← whole; standAt a.pos; holding [v] (truthy v)) := by intro _; rfl) : PT X a (upT G Wx (tst fa)) :=
  PT.imp (fun σ H Q ⟨ρ, ls, S, hs, hh, hp⟩ => ⟨ρ, ls, S, hs, hh, (Post.bind hp).mono fun v S1 ρ1 H1 s1 h1 q x rx => truV_of hK rx h1 (NoX_post q)⟩) (pt_truth h he)
/-- a comparison as a test -/
@[simp] def tB1 (f : EM) : TM := fun ls S => (f ls S).bind fun v S1 => match v with
  | .bl k => .ok k S1
  | _ => .stuck
theorem PostB {α : Type} {ρ H v S1} {Q E} (q : Post G ρ H (match v with | W.bl k => Res.ok k S1 | _ => Res.stuck) (QB Q) E) (h1 : RelH G ρ H S1) : ∃ k, v = .bl k ∧ Q k H := by
  cases v with
  | bl k => exact ⟨k, rfl, q ρ H .refl h1⟩
  | _ => exact q.elim
theorem tTest_of : ∀ σ H Q, upT G Wx (tB1 fa) σ H Q → tTest (upE G Wx fa) σ H Q := fun σ H Q ⟨ρ, ls, S, hs, hh, hp⟩ =>
  ⟨ρ, ls, S, hs, hh, (Post.bind hp).mono fun v S1 ρ1 H1 s1 h1 q x rx => by
    obtain ⟨k, rfl, hq⟩ := PostB (α := Bool) q h1
    cases rx
    exact ⟨k, rfl, hq⟩⟩
theorem t_cmp {op : CmpOp} {o : W → W → M W} (ho : OpR X (compareOp op) (upR G o)) (ha : PE X a (upE G Wx fa)) (hb : PE X b (upE G Wx fb)) (hm : behindInMarks op b = false) : PT X (.Compare a [op] [b] pos) (upT G Wx (tB1 (bin o fa fb))) :=
  PT.imp (fun σ H Q h => by
    obtain ⟨ρ, ls, S, hs, hh, hp⟩ := h
    have := tTest_of (fa := bin o fa fb) σ H Q ⟨ρ, ls, S, hs, hh, hp⟩
    exact tOp_of σ H _ this) (pt_cmpR ho ha hb hm)
/-! ### and, or, not -/
@[simp] def mAnd (t u : TM) : TM := fun ls S => (t ls S).bind fun k S1 => if k = true then u ls S1 else .ok false S1
@[simp] def mOr (t u : TM) : TM := fun ls S => (t ls S).bind fun k S1 => if k = true then .ok true S1 else u ls S1
@[simp] def mNot (t : TM) : TM := fun ls S => (t ls S).bind fun k S1 => .ok (!k) S1
theorem PW.imp {X : Cx} {e : Expr} {t t' : TT} (h : ∀ σ H Q, t' σ H Q → t σ H Q) (p : PW X e t) : PW X e t' := ⟨fun wh pins s σ H Q I q => p.run wh pins s σ H Q I (h σ H Q q)⟩
theorem w_and1 (h : PT X a (upT G Wx ta)) : PW X (.BoolOp .And [a] pos) (upT G Wx ta) := pw_and1 h
theorem w_or1 (h : PT X a (upT G Wx ta)) : PW X (.BoolOp .Or [a] pos) (upT G Wx ta) := pw_or1 h
theorem w_and (h : PT X a (upT G Wx ta)) (h2 : PW X (.BoolOp .And (b :: rest) pos) (upT G Wx tb)) : PW X (.BoolOp .And (a :: b :: rest) pos) (upT G Wx (mAnd ta tb)) :=
  PW.imp (fun σ H Q ⟨ρ, ls, S, hs, hh, hp⟩ => ⟨ρ, ls, S, hs, hh, (Post.bind hp).mono fun k S1 ρ1 H1 s1 h1 q => by
    show if k = true then _ else _
    cases k with
    | true => exact ⟨ρ1, ls, S1, hs.step s1, h1, q⟩
    | false => exact q ρ1 H1 .refl h1⟩) (pw_and h h2)
theorem w_or (h : PT X a (upT G Wx ta)) (h2 : PW X (.BoolOp .Or (b :: rest) pos) (upT G Wx tb)) : PW X (.BoolOp .Or (a :: b :: rest) pos) (upT G Wx (mOr ta tb)) :=
  PW.imp (fun σ H Q ⟨ρ, ls, S, hs, hh, hp⟩ => ⟨ρ, ls, S, hs, hh, (Post.bind hp).mono fun k S1 ρ1 H1 s1 h1 q => by
    show if k = true then _ else _
    cases k with
    | true => exact q ρ1 H1 .refl h1
    | false => exact ⟨ρ1, ls, S1, hs.step s1, h1, q⟩⟩) (pw_or h h2)
theorem t_not (h : PT X a (upT G Wx ta)) : PT X (.UnaryOp .Not a pos) (upT G Wx (mNot ta)) :=
  PT.imp (fun σ H Q ⟨ρ, ls, S, hs, hh, hp⟩ => ⟨ρ, ls, S, hs, hh, (Post.bind hp).mono fun k S1 ρ1 H1 s1 h1 q => q ρ1 H1 .refl h1⟩) (pt_not h)
/-- and, or, not as values -/
@[simp] def vAnd (f g : EM) : EM := fun ls S => (f ls S).bind fun v S1 => (NoX (truth v S1)).bind fun k S2 => if k = true then g ls S1 else .ok v S1
@[simp] def vOr (f g : EM) : EM := fun ls S => (f ls S).bind fun v S1 => (NoX (truth v S1)).bind fun k S2 => if k = true then .ok v S1 else g ls S1
@[simp] def vNot (f : EM) : EM := fun ls S => (f ls S).bind fun v S1 => (NoX (truth v S1)).bind fun k S2 => .ok (.bl (!k)) S1
theorem truth_S {w S k S2} (h : truth w S = .ok k S2) : S2 = S := by
  cases w <;> simp only [truth] at h
  case str z => split at h <;> cases h; rfl
  case loc l =>
    cases q : S[l]? with
    | none => rw [q] at h; cases h
    | some ob => rw [q] at h; cases ob <;> cases h <;> rfl
  all_goals (cases h <;> rfl)
theorem truV_bind (hK : G.K = X.K) {ρ H w x S} {α : Type} {f : Bool → M α} {Q E} (r : RelW G ρ H w x) (hh : RelH G ρ H S) (hp : Post G ρ H ((NoX (truth w S)).bind fun k _ => f k S) Q E) : ∃ k, TruV X.K x H k ∧ Post G ρ H (f k S) Q E := by
  cases q : truth w S with
  | ok k S2 =>
    rw [q] at hp
    obtain ⟨k', h1, h2⟩ := truV_of (Q := fun k' _ => k' = k) hK r hh (by rw [q]; exact fun ρ' H' _ _ => rfl)
    subst h2
    exact ⟨k', h1, hp⟩
  | exc c fs S' => rw [q] at hp; exact hp.elim
  | stuck => rw [q] at hp; exact hp.elim
theorem e_one {op} (h : PE X a (upE G Wx fa)) : PE X (.BoolOp op [a] pos) (upE G Wx fa) := pe_one h
theorem e_and (hK : G.K = X.K) (h : PE X a (upE G Wx fa)) (h2 : PE X (.BoolOp .And (b :: rest) pos) (upE G Wx fb)) : PE X (.BoolOp .And (a :: b :: rest) pos) (upE G Wx (vAnd fa fb)) :=
  PE.imp (fun σ H Q ⟨ρ, ls, S, hs, hh, hp⟩ => ⟨ρ, ls, S, hs, hh, (Post.bind hp).mono fun v S1 ρ1 H1 s1 h1 q x rx => by
    obtain ⟨k, hk, q2⟩ := truV_bind (f := fun k S => if k = true then fb ls S else .ok v S) hK rx h1 q
    refine ⟨k, hk, ?_⟩
    cases k with
    | true => exact ⟨ρ1, ls, S1, hs.step s1, h1, q2⟩
    | false => exact q2 ρ1 H1 .refl h1 x rx⟩) (pe_andT h h2)
theorem e_or (hK : G.K = X.K) (h : PE X a (upE G Wx fa)) (h2 : PE X (.BoolOp .Or (b :: rest) pos) (upE G Wx fb)) : PE X (.BoolOp .Or (a :: b :: rest) pos) (upE G Wx (vOr fa fb)) :=
  PE.imp (fun σ H Q ⟨ρ, ls, S, hs, hh, hp⟩ => ⟨ρ, ls, S, hs, hh, (Post.bind hp).mono fun v S1 ρ1 H1 s1 h1 q x rx => by
    obtain ⟨k, hk, q2⟩ := truV_bind (f := fun k S => if k = true then .ok v S else fb ls S) hK rx h1 q
    refine ⟨k, hk, ?_⟩
    cases k with
    | true => exact q2 ρ1 H1 .refl h1 x rx
    | false => exact ⟨ρ1, ls, S1, hs.step s1, h1, q2⟩⟩) (pe_orT h h2)
theorem e_not (hK : G.K = X.K) (h : PE X a (upE G Wx fa)) : PE X (.UnaryOp .Not a pos) (upE G Wx (vNot fa)) :=
  PE.imp (fun σ H Q ⟨ρ, ls, S, hs, hh, hp⟩ => ⟨ρ, ls, S, hs, hh, (Post.bind hp).mono fun v S1 ρ1 H1 s1 h1 q x rx => by
    obtain ⟨k, hk, q2⟩ := truV_bind (α := W) (f := fun k S => .ok (W.bl (!k)) S) hK rx h1 q
    exact ⟨k, hk, q2 ρ1 H1 .refl h1 _ rfl⟩⟩) (pe_notT h)
@[simp] def vIf (t : TM) (f g : EM) : EM := fun ls S => (t ls S).bind fun k S1 => if k = true then f ls S1 else g ls S1
theorem e_if (hc : PT X c (upT G Wx ta)) (h : PE X a (upE G Wx fa)) (h2 : PE X b (upE G Wx fb)) : PE X (.IfExp c a b pos) (upE G Wx (vIf ta fa fb)) :=
  PE.imp (fun σ H Q ⟨ρ, ls, S, hs, hh, hp⟩ => ⟨ρ, ls, S, hs, hh, (Post.bind hp).mono fun k S1 ρ1 H1 s1 h1 q => by
    show if k = true then _ else _
    cases k with
    | true => exact ⟨ρ1, ls, S1, hs.step s1, h1, q⟩
    | false => exact ⟨ρ1, ls, S1, hs.step s1, h1, q⟩⟩) (pe_ifExp hc h h2)
/-- a op b op' c -/
@[simp] def chn (o o' : W → W → M W) (f g h : EM) : EM := fun ls S => (f ls S).bind fun u S1 => (g ls S1).bind fun v S2 => (NoX (o u v S2)).bind fun z S3 => match z with
  | .bl k => if k = true then (h ls S3).bind fun w S4 => NoX (o' v w S4) else .ok (.bl false) S3
  | _ => .stuck
theorem tChain_of {o o' : W → W → M W} : ∀ σ H Q, upE G Wx (chn o o' fa fb fc) σ H Q → tChain (upR G o) (upR G o') (upE G Wx fa) (upE G Wx fb) (upE G Wx fc) σ H Q := fun σ H Q ⟨ρ, ls, S, hs, hh, hp⟩ =>
  ⟨ρ, ls, S, hs, hh, (Post.bind hp).mono fun u S1 ρ1 H1 s1 h1 q x rx => ⟨ρ1, ls, S1, hs.step s1, h1, (Post.bind q).mono fun v S2 ρ2 H2 s2 h2 q2 y ry => ⟨ρ2, u, v, S2, rx.step s2, ry, h2, (NoX_post (Post.bind q2)).mono fun z S3 ρ3 H3 s3 h3 q3 zz rz => by
    cases z with
    | bl k =>
      cases rz
      refine ⟨k, rfl, ?_⟩
      cases k with
      | false => exact q3 ρ3 H3 .refl h3 _ rfl
      | true => exact ⟨ρ3, ls, S3, ((hs.step s1).step s2).step s3, h3, (Post.bind q3).mono fun w S4 ρ4 H4 s4 h4 q4 w' rw => ⟨ρ4, v, w, S4, (ry.step s3).step s4, rw, h4, NoX_post q4⟩⟩
    | _ => exact q3.elim⟩⟩⟩
theorem e_chain {op op' : CmpOp} {o o' : W → W → M W} (ho : OpR X (compareOp op) (upR G o)) (ho' : OpR X (compareOp op') (upR G o')) (ha : PE X a (upE G Wx fa)) (hb : PE X b (upE G Wx fb)) (hc : PE X c (upE G Wx fc))
    (hm : lastMarks [op, op'] [b, c] = false := by with_unfolding_all rfl) : PE X (.Compare a [op, op'] [b, c] pos) (upE G Wx (chn o o' fa fb fc)) := PE.imp tChain_of (pe_chain ho ho' ha hb hc hm)
theorem t_chain {op op' : CmpOp} {o o' : W → W → M W} (ho : OpR X (compareOp op) (upR G o)) (ho' : OpR X (compareOp op') (upR G o')) (ha : PE X a (upE G Wx fa)) (hb : PE X b (upE G Wx fb)) (hc : PE X c (upE G Wx fc))
    (hm : lastMarks [op, op'] [b, c] = false := by with_unfolding_all rfl) : PT X (.Compare a [op, op'] [b, c] pos) (upT G Wx (tB1 (chn o o' fa fb fc))) :=
  PT.imp (fun σ H Q h => tChain_of σ H _ (tTest_of (fa := chn o o' fa fb fc) σ H Q h)) (pt_chain ho ho' ha hb hc hm)
end
end Mp
set_option Elab.async false
set_option linter.all false
set_option maxRecDepth 100000
set_option maxHeartbeats 4000000
namespace Mp
open PySem PySem.Spec PyProof.Rows L2
section
variable {X : Cx} {G : Gi} {Wx : WX} {a b c : Expr} {fa fb fc : EM} {pos pos' : Pos} {es : List Expr} {fs : AM} {ta tb : TM} {m1 m2 : SM} {st : Stmt} {sts : List Stmt}
@[simp] def toS {α : Type} (r : Res α) (ls : LSt) (k : α → Sto → SRes) : SRes := match r with
  | .ok v S' => k v S'
  | .exc c fs S' => .exc c fs ls S'
  | .stuck => .stuck
theorem PostS.of {α : Type} {ρ H ls σ D} {r : Res α} {k : α → Sto → SRes} (hs : RelS G ρ H ls σ) (h : PostS G ρ H Wx D (toS r ls k)) : Post G ρ H r (fun a S1 ρ1 H1 => PostS G ρ1 H1 Wx D (k a S1)) (fun c d H' => Wx c d σ H') := by
  cases r with
  | ok v S' => exact fun ρ' H' t _ => PostS.step t h
  | exc c fs S' => exact fun ρ' H' d t k1 => h ρ' H' σ d t k1 (hs.step t)
  | stuck => exact h
/-! ### statements -/
@[simp] def sSeq (m1 m2 : SM) : SM := fun ls S => match m1 ls S with
  | .nx ls' S' => m2 ls' S'
  | r => r
@[simp] def sNop : SM := fun ls S => .nx ls S
theorem ss_nil : PSs X [] (upS G Wx sNop) := PSs.imp (fun D σ H ⟨ρ, ls, S, hs, hh, hp⟩ => hp ρ H σ .refl hh hs) pss_nil
theorem ss_one (h : PS X st (upS G Wx m1)) : PSs X [st] (upS G Wx m1) := pss_one h
theorem ss_cons (h : PS X st (upS G Wx m1)) (h2 : PSs X sts (upS G Wx m2)) : PSs X (st :: sts) (upS G Wx (sSeq m1 m2)) :=
  PSs.imp (fun D σ H ⟨ρ, ls, S, hs, hh, hp⟩ => ⟨ρ, ls, S, hs, hh, by
    simp only [sSeq] at hp
    cases q : m1 ls S with
    | nx ls' S' => rw [q] at hp; exact fun ρ' H' σ' t h' s' => ⟨ρ', ls', S', s', h', PostS.step t hp⟩
    | rt v S' => rw [q] at hp; exact hp
    | bk ls' S' => rw [q] at hp; exact hp
    | ct ls' S' => rw [q] at hp; exact hp
    | exc c fs ls' S' => rw [q] at hp; exact hp
    | stuck => rw [q] at hp; exact hp⟩) (pss_cons h h2)
theorem s_pass : PS X (.Pass pos) (upS G Wx sNop) := PS.imp (fun D σ H ⟨ρ, ls, S, hs, hh, hp⟩ => hp ρ H σ .refl hh hs) ps_pass
@[simp] def sBrk : SM := fun ls S => .bk ls S
theorem s_break : PS X (.Break pos) (upS G Wx sBrk) := PS.imp (fun D σ H ⟨ρ, ls, S, hs, hh, hp⟩ => hp ρ H σ .refl hh hs) ps_break
@[simp] def sCnt : SM := fun ls S => .ct ls S
theorem s_cont : PS X (.Continue pos) (upS G Wx sCnt) := PS.imp (fun D σ H ⟨ρ, ls, S, hs, hh, hp⟩ => hp ρ H σ .refl hh hs) ps_continue
@[simp] def sDrp (f : EM) : SM := fun ls S => toS (f ls S) ls fun _ S1 => .nx ls S1
theorem s_expr (h : PE X a (upE G Wx fa)) (hsw : swapsWith a none pos.line X.env = pure false := by rfl) : PS X (.Expr a pos) (upS G Wx (sDrp fa)) :=
  PS.imp (fun D σ H ⟨ρ, ls, S, hs, hh, hp⟩ => ⟨ρ, ls, S, hs, hh, (PostS.of hs hp).mono fun v S1 ρ1 H1 s1 h1 q x rx => q ρ1 H1 σ .refl h1 (hs.step s1)⟩) (ps_expr h hsw)
@[simp] def sRet (f : EM) : SM := fun ls S => toS (f ls S) ls fun v S1 => .rt v S1
theorem s_ret (h : PE X a (upE G Wx fa)) : PS X (.Return (some a) pos) (upS G Wx (sRet fa)) :=
  PS.imp (fun D σ H ⟨ρ, ls, S, hs, hh, hp⟩ => ⟨ρ, ls, S, hs, hh, (PostS.of hs hp).mono fun v S1 ρ1 H1 s1 h1 q x rx => q ρ1 H1 x .refl h1 rx⟩) (ps_ret h)
@[simp] def sIf (t : TM) (m1 m2 : SM) : SM := fun ls S => toS (t ls S) ls fun k S1 => if k = true then m1 ls S1 else m2 ls S1
theorem s_if {p q : List Stmt} (h : PT X c (upT G Wx ta)) (h1 : PSs X p (upS G Wx m1)) (h2 : PSs X q (upS G Wx m2)) : PS X (.If c p q pos) (upS G Wx (sIf ta m1 m2)) :=
  PS.imp (fun D σ H ⟨ρ, ls, S, hs, hh, hp⟩ => ⟨ρ, ls, S, hs, hh, (PostS.of hs hp).mono fun k S1 ρ1 H1 s1 h1 q => by
    show if k = true then _ else _
    cases k with
    | true => exact ⟨ρ1, ls, S1, hs.step s1, h1, q⟩
    | false => exact ⟨ρ1, ls, S1, hs.step s1, h1, q⟩⟩) (ps_if h h1 h2)
/-! ### targets -/
abbrev GM := W → LSt → Sto → Option (LSt × Sto)
abbrev GMs := List W → LSt → Sto → Option (LSt × Sto)
def PostG (G : Gi) (ρ : Rho) (H : Hp) (Q : L2.St → Hp → Prop) : Option (LSt × Sto) → Prop
  | some r => ∀ ρ' H' σ', Step ρ H ρ' H' → RelH G ρ' H' r.2 → RelS G ρ' H' r.1 σ' → Q σ' H'
  | none => False
def upG (G : Gi) (g : GM) : TG := fun v σ H Q => ∃ ρ w ls S, RelW G ρ H w v ∧ RelS G ρ H ls σ ∧ RelH G ρ H S ∧ PostG G ρ H Q (g w ls S)
def upGs (G : Gi) (g : GMs) : TGs := fun v σ H Q => ∃ ρ w ls S, RelWs G ρ H w v ∧ RelS G ρ H ls σ ∧ RelH G ρ H S ∧ PostG G ρ H Q (g w ls S)
theorem PostG.step {ρ H ρ1 H1 Q r} (s : Step ρ H ρ1 H1) (h : PostG G ρ H Q r) : PostG G ρ1 H1 Q r := by
  cases r with
  | none => exact h
  | some r => exact fun ρ' H' σ' t => h ρ' H' σ' (s.trans t)
theorem PG.imp {X : Cx} {e : Expr} {t t' : TG} (h : ∀ v σ H Q, t' v σ H Q → t v σ H Q) (p : PG X e t) : PG X e t' := ⟨fun pins s σ H v u D I rv q => p.run pins s σ H v u D I rv (h v σ H D q)⟩
theorem PGs.imp {X : Cx} {e : List Expr} {t t' : TGs} (h : ∀ v σ H Q, t' v σ H Q → t v σ H Q) (p : PGs X e t) : PGs X e t' := ⟨fun pins s σ H v u D I rv q => p.run pins s σ H v u D I rv (h v σ H D q)⟩
@[simp] def gNm (i : Nat) : GM := fun w ls S => some (ls.set i (some w), S)
theorem g_name {i : Nat} (h : PG X a (gName i)) : PG X a (upG G (gNm i)) := PG.imp (fun v σ H Q ⟨ρ, w, ls, S, rw, rs, hh, q⟩ => q ρ H _ .refl hh (rs.set rw i)) h
@[simp] def gNl : GMs := fun ws ls S => match ws with
  | [] => some (ls, S)
  | _ => none
@[simp] def gCn (g : GM) (h : GMs) : GMs := fun ws ls S => match ws with
  | w :: r => match g w ls S with
    | some q => h r q.1 q.2
    | none => none
  | [] => none
variable {g : GM} {gs : GMs}
theorem gs_nil : PGs X [] (upGs G gNl) := PGs.imp (fun v σ H Q ⟨ρ, w, ls, S, rw, rs, hh, q⟩ => by
  cases w with
  | nil => exact ⟨rw, q ρ H σ .refl hh rs⟩
  | cons w r => exact q.elim) pgs_nil
theorem gs_cons (h1 : PG X a (upG G g)) (h2 : PGs X es (upGs G gs)) (hs : (assignEach (a :: es) X.env).map (·.2) = assign a X.env :: (assignEach es X.env).map (·.2) := by rfl) : PGs X (a :: es) (upGs G (gCn g gs)) :=
  PGs.imp (fun v σ H Q ⟨ρ, w, ls, S, rw, rs, hh, q⟩ => by
    cases w with
    | nil => exact q.elim
    | cons w r =>
      obtain ⟨y, ys, rfl, r1, r2⟩ := rw
      refine ⟨y, ys, rfl, ρ, w, ls, S, r1, rs, hh, ?_⟩
      simp only [gCn] at q
      cases e : g w ls S with
      | none => rw [e] at q; exact q.elim
      | some p => rw [e] at q; exact fun ρ' H' σ' t h' s' => ⟨ρ', r, p.1, p.2, r2.step t, s', h', PostG.step t q⟩) (pgs_cons h1 h2 hs)
@[simp] def gTp (n : Nat) (h : GMs) : GM := fun w ls S => match w with
  | .tup ws => if ws.length = n then h ws ls S else none
  | _ => none
theorem g_tup {k n : Nat} (hK : G.K = X.K) (hc : X.calm = true) (h : PGs X es (upGs G gs)) (hn : (assignEach es X.env).length = n := by rfl) (hst : (assignEach es X.env).findIdx? (·.1) = none := by rfl) : PG X (.Tuple es k pos) (upG G (gTp n gs)) :=
  PG.imp (fun v σ H Q ⟨ρ, w, ls, S, rw, rs, hh, q⟩ => by
    cases w with
    | tup ws =>
      obtain ⟨a, xs, rfl, t, r⟩ := rw
      simp only [gTp] at q
      by_cases e : ws.length = n
      · rw [if_pos e] at q
        exact ⟨a, xs, rfl, by rw [← hK]; exact t.sq, by rw [← r.len]; exact e, ρ, ws, ls, S, r, rs, hh, q⟩
      · rw [if_neg e] at q; exact q.elim
    | _ => exact q.elim) (pg_tup hc h hn hst)
/-- x = e, any target -/
@[simp] def ofG (r : Option (LSt × Sto)) : SRes := match r with
  | some q => .nx q.1 q.2
  | none => .stuck
@[simp] def sAsg (f : EM) (g : GM) : SM := fun ls S => toS (f ls S) ls fun v S1 => ofG (g v ls S1)
theorem PostG.of {ρ H D r} (h : PostS G ρ H Wx D (ofG r)) : PostG G ρ H D.nx r := by
  cases r with
  | none => exact h
  | some q => exact h
theorem tAsg_of : ∀ D σ H, upS G Wx (sAsg fa g) D σ H → tAsg (upE G Wx fa) (upG G g) D σ H := fun D σ H ⟨ρ, ls, S, hs, hh, hp⟩ =>
  ⟨ρ, ls, S, hs, hh, (PostS.of hs hp).mono fun v S1 ρ1 H1 s1 h1 q x rx => ⟨ρ1, v, ls, S1, rx, hs.step s1, h1, PostG.of q⟩⟩
theorem s_asg (h : PE X a (upE G Wx fa)) (hg : PG X b (upG G g)) (hs : swapsWithSole [b] a pos.line X.env = pure false := by rfl) (hw : swappedStores [b] a X.env = pure none := by rfl)
    (h1 : (assignEach [b] X.env).map (·.2) = [assign b X.env] := by rfl) : PS X (.Assign [b] a pos) (upS G Wx (sAsg fa g)) := PS.imp tAsg_of (ps_asg h hg hs hw h1)
theorem s_set {i : Nat} {x : Str} (hN : X.N.Nodup) (hi : X.N[i]? = some x) (hx : Loc X.env.scope x) (h : PE X a (upE G Wx fa)) (hs : swapsWith a (some (.Name x pos')) pos.line X.env = pure false := by rfl) (hf : X.fn x = true ∨ X.env.scope.names.lookup x = some .local := by first | exact .inl rfl | exact .inr rfl | assumption) :
    PS X (.Assign [.Name x pos'] a pos) (upS G Wx (sAsg fa (gNm i))) :=
  PS.imp (fun D σ H ⟨ρ, ls, S, hs, hh, hp⟩ => ⟨ρ, ls, S, hs, hh, (PostS.of hs hp).mono fun v S1 ρ1 H1 s1 h1 q x rx => q ρ1 H1 _ .refl h1 ((hs.step s1).set rx i)⟩) (ps_set hN hi hx h hs hf)
/-! ### what is walked -/
inductive ItW where
  | lst (l : Nat) | tup (ws : List W) | rng (lo : Int) (n : Nat) | str (z : Str) | enL (l : Nat) | zip (l l' : Nat)
@[simp] def itNext : ItW → Nat → Sto → Option (Option W)
  | .lst l, i, S => match S[l]? with
    | some (.lst ws) => some ws[i]?
    | _ => none
  | .tup ws, i, _ => some ws[i]?
  | .rng lo n, i, _ => some (if i < n then some (.int (lo + i)) else none)
  | .str z, i, _ => some ((z.cps[i]?).map fun c => .str ⟨#[c]⟩)
  | .enL l, i, S => match S[l]? with
    | some (.lst ws) => some ((ws[i]?).map fun w => .tup [.int i, w])
    | _ => none
  | .zip l l', i, S => match S[l]?, S[l']? with
    | some (.lst ws), some (.lst us) => some (match ws[i]?, us[i]? with
      | some w, some u => some (.tup [w, u])
      | _, _ => none)
    | _, _ => none
@[simp] def itFuel : ItW → Sto → Nat
  | .lst l, S => match S[l]? with
    | some (.lst ws) => ws.length + 1
    | _ => 0
  | .tup ws, _ => ws.length + 1
  | .rng _ n, _ => n + 1
  | .str z, _ => z.cps.size + 1
  | .enL l, S => match S[l]? with
    | some (.lst ws) => ws.length + 1
    | _ => 0
  | .zip l _, S => match S[l]? with
    | some (.lst ws) => ws.length + 1
    | _ => 0
def RelIt (G : Gi) (ρ : Rho) (H : Hp) (it : ItW) (J : It) : Prop := ∀ ρ' H' S', Step ρ H ρ' H' → RelH G ρ' H' S' → ∀ i, match itNext it i S' with
  | none => True
  | some none => J.stop i H'
  | some (some w) => J.go i H' ∧ ∀ x H'', J.yld i H' x H'' → Step ρ' H' ρ' H'' ∧ RelH G ρ' H'' S' ∧ RelW G ρ' H'' w x
theorem RelIt.step {ρ H ρ1 H1 it J} (s : Step ρ H ρ1 H1) (h : RelIt G ρ H it J) : RelIt G ρ1 H1 it J := fun ρ' H' S' t => h ρ' H' S' (s.trans t)
def upI (G : Gi) (X : WX) (f : LSt → M ItW) : TI := fun σ H R => ∃ ρ ls S, RelS G ρ H ls σ ∧ RelH G ρ H S ∧ Post G ρ H (f ls S) (fun it S' ρ' H' => ∀ J, RelIt G ρ' H' it J → R J H') fun c d H' => X c d σ H'
theorem PI.imp {X : Cx} {tg e : Expr} {t t' : TI} (h : ∀ σ H Q, t' σ H Q → t σ H Q) (p : PI X tg e t) : PI X tg e t' := ⟨fun pins s σ H R I q => p.run pins s σ H R I (h σ H R q)⟩
theorem PI.or {X : Cx} {tg e : Expr} {t t' : TI} (p : PI X tg e t) (p' : PI X tg e t') : PI X tg e (fun σ H Q => t σ H Q ∨ t' σ H Q) := ⟨fun pins s σ H R I q => q.elim (p.run pins s σ H R I) (p'.run pins s σ H R I)⟩
theorem RelH.lst {ρ H S l ws} (hh : RelH G ρ H S) (e : S[l]? = some (.lst ws)) : ∃ a xs, ρ l = some a ∧ H a = some (.lst xs) ∧ RelWs G ρ H ws xs := hh.at_ l _ e
theorem RelIt.ofL {ρ H l a} (hK : G.K = X.K) (e : ρ l = some a) : RelIt G ρ H (.lst l) (Itl X.K a) := fun ρ' H' S' t hh i => by
  simp only [itNext]
  cases q : S'[l]? with
  | none => trivial
  | some ob =>
    cases ob with
    | lst ws =>
      obtain ⟨a', xs, e1, e2, r⟩ := hh.lst q
      rw [t.sub l a e] at e1; cases e1
      simp only
      cases q2 : ws[i]? with
      | none => exact ⟨xs, .of e2, by rw [← r.len]; exact List.getElem?_eq_none_iff.mp q2⟩
      | some w =>
        obtain ⟨x, hx, rx⟩ := r.get q2
        refine ⟨⟨xs, x, .of e2, hx⟩, fun y H'' ⟨e3, e4⟩ => ?_⟩
        subst e3
        have := e4 xs (.of e2)
        rw [hx] at this; cases this
        exact ⟨.refl, hh, rx⟩
    | _ => trivial
theorem RelIt.ofT {ρ H ws a xs} (hK : G.K = X.K) (t0 : TupAt G.K ρ H a xs) (r0 : RelWs G ρ H ws xs) : RelIt G ρ H (.tup ws) (Itt X.K a) := fun ρ' H' S' t hh i => by
  have sq : SqT X.K H' a xs := by rw [← hK]; exact (t0.step t).sq
  have r := r0.step t
  simp only [itNext]
  cases q2 : ws[i]? with
  | none => exact ⟨xs, sq, by rw [← r.len]; exact List.getElem?_eq_none_iff.mp q2⟩
  | some w =>
    obtain ⟨x, hx, rx⟩ := r.get q2
    refine ⟨⟨xs, x, sq, hx⟩, fun y H'' ⟨e3, e4⟩ => ?_⟩
    subst e3
    have := e4 xs sq
    rw [hx] at this; cases this
    exact ⟨.refl, hh, rx⟩
theorem RelIt.ofR {ρ H lo n} : RelIt G ρ H (.rng lo n) (Itr lo n) := fun ρ' H' S' t hh i => by
  simp only [itNext]
  by_cases h : i < n
  · rw [if_pos h]
    refine ⟨h, fun y H'' ⟨e3, e4⟩ => ?_⟩
    subst e3
    exact ⟨.refl, hh, e4⟩
  · rw [if_neg h]
    exact Nat.le_of_not_lt h
theorem RelIt.ofS {ρ H z} : RelIt G ρ H (.str z) (Its z) := fun ρ' H' S' t hh i => by
  simp only [itNext]
  cases q : z.cps[i]? with
  | none => exact Array.getElem?_eq_none_iff.mp q
  | some c =>
    refine ⟨?_, fun y H'' ⟨e3, c', e4, e5⟩ => ?_⟩
    · exact (Array.getElem?_eq_some_iff.mp q).1
    · subst e3
      rw [q] at e4; cases e4
      exact ⟨.refl, hh, e5⟩
/-- what a value is walked as -/
@[simp] def walkW : W → M ItW
  | .loc l, S => match S[l]? with
    | some (.lst _) => .ok (.lst l) S
    | _ => .stuck
  | .tup ws, S => .ok (.tup ws) S
  | .str z, S => .ok (.str z) S
  | _, _ => .stuck
@[simp] def iAny (f : EM) : LSt → M ItW := fun ls S => (f ls S).bind fun v S1 => NoX (walkW v S1)
theorem i_any {tg : Expr} (hK : G.K = X.K) (h : PE X a (upE G Wx fa)) : PI X tg a (upI G Wx (iAny fa)) := by
  refine PI.imp ?_ (PI.or (pi_list h) (PI.or (pi_tup h) (pi_str h)))
  rintro σ H R ⟨ρ, ls, S, hs, hh, hp⟩
  cases q : fa ls S with
  | stuck => simp only [iAny, q, Res.bind] at hp; exact hp.elim
  | exc c fs S' => 
    refine .inl ⟨ρ, ls, S, hs, hh, ?_⟩
    simp only [iAny, q, Res.bind] at hp
    rw [q]; exact hp
  | ok v S1 =>
    simp only [iAny, q, Res.bind] at hp
    cases v with
    | loc l =>
      refine .inl ⟨ρ, ls, S, hs, hh, ?_⟩
      rw [q]
      intro ρ1 H1 s1 h1 x rx
      simp only [walkW] at hp
      cases q2 : S1[l]? with
      | none => rw [q2] at hp; exact hp.elim
      | some ob =>
        cases ob with
        | lst ws =>
          rw [q2] at hp
          obtain ⟨a, e, rfl⟩ := rx
          obtain ⟨a', xs, e1, e2, r⟩ := h1.lst q2
          rw [e] at e1; cases e1
          exact ⟨a, rfl, ⟨xs, .of e2⟩, hp ρ1 H1 s1 h1 _ (RelIt.ofL hK e)⟩
        | _ => rw [q2] at hp; exact hp.elim
    | tup ws =>
      refine .inr (.inl ⟨ρ, ls, S, hs, hh, ?_⟩)
      rw [q]
      rintro ρ1 H1 s1 h1 x ⟨a, xs, rfl, t, r⟩
      exact ⟨a, rfl, ⟨xs, by rw [← hK]; exact t.sq⟩, hp ρ1 H1 s1 h1 _ (RelIt.ofT hK t r)⟩
    | str z =>
      refine .inr (.inr ⟨ρ, ls, S, hs, hh, ?_⟩)
      rw [q]
      intro ρ1 H1 s1 h1 x rx
      exact ⟨z, rx, hp ρ1 H1 s1 h1 _ RelIt.ofS⟩
    | _ => exact hp.elim
/-! ### for, while -/
def forGo (it : ItW) (g : GM) (m : SM) : Nat → Nat → LSt → Sto → SRes
  | 0, _, _, _ => .stuck
  | n + 1, i, ls, S => match itNext it i S with
    | none => .stuck
    | some none => .nx ls S
    | some (some w) => match g w ls S with
      | none => .stuck
      | some q => match m q.1 q.2 with
        | .nx ls2 S2 => forGo it g m n (i + 1) ls2 S2
        | .ct ls2 S2 => forGo it g m n (i + 1) ls2 S2
        | .bk ls2 S2 => .nx ls2 S2
        | r => r
@[simp] def sFor (f : LSt → M ItW) (g : GM) (m : SM) : SM := fun ls S => toS (f ls S) ls fun it S1 => forGo it g m (itFuel it S1) 0 ls S1
theorem s_for {tg iter : Expr} {body : List Stmt} {fi : LSt → M ItW} (hp : PassesOwn (model X.prog X.w) X.A X.env X.xe) (hc : X.calm = true) (hi : PI X tg iter (upI G Wx fi)) (hg : PG X tg (upG G g)) (hb : PSs X body (upS G Wx m1))
    (hs : ∀ x, foldedSetIterable iter X.env x = pure x := by intro _; rfl) : PS X (.For tg iter body [] pos) (upS G Wx (sFor fi g m1)) := by
  refine PS.imp ?_ (ps_for hp hc hi hg hb hs)
  rintro D σ H ⟨ρ, ls, S, hs, hh, hp⟩
  refine ⟨ρ, ls, S, hs, hh, (PostS.of hs hp).mono fun it S1 ρ1 H1 s1 h1 q J hJ => ?_⟩
  refine ⟨fun i n σ H => ∃ ρ ls S, RelS G ρ H ls σ ∧ RelH G ρ H S ∧ RelIt G ρ H it J ∧ PostS G ρ H Wx D (forGo it g m1 n i ls S), ⟨_, ρ1, ls, S1, hs.step s1, h1, hJ, q⟩, ?_⟩
  rintro i n σ H ⟨ρ, ls, S, hs, hh, hJ, hp⟩
  cases n with
  | zero => exact hp.elim
  | succ n =>
    have nx := hJ ρ H S .refl hh i
    simp only [forGo] at hp
    cases e : itNext it i S with
    | none => rw [e] at hp; exact hp.elim
    | some o =>
      rw [e] at hp nx
      cases o with
      | none => exact .inl ⟨nx, hp ρ H σ .refl hh hs⟩
      | some w =>
        refine .inr ⟨nx.1, fun σ' H' => ∃ ρ ls S, RelS G ρ H' ls σ' ∧ RelH G ρ H' S ∧ RelIt G ρ H' it J ∧ PostS G ρ H' Wx D (forGo it g m1 n (i + 1) ls S), fun σ' H' h => ⟨n, Nat.lt_succ_self n, h⟩, fun x H' y => ?_⟩
        obtain ⟨st, hh', rw'⟩ := nx.2 x H' y
        simp only at hp
        refine ⟨ρ, w, ls, S, rw', hs.step st, hh', ?_⟩
        cases e2 : g w ls S with
        | none => rw [e2] at hp; exact hp.elim
        | some r =>
          rw [e2] at hp
          intro ρ2 H2 σ2 s2 h2 hs2
          refine ⟨ρ2, r.1, r.2, hs2, h2, ?_⟩
          simp only at hp
          have hJ2 : ∀ {ρ3 H3}, Step ρ2 H2 ρ3 H3 → RelIt G ρ3 H3 it J := fun s3 => hJ.step ((st.trans s2).trans s3)
          cases e3 : m1 r.1 r.2 with
          | nx ls2 S2 => rw [e3] at hp; exact fun ρ3 H3 σ3 s3 h3 hs3 => ⟨ρ3, ls2, S2, hs3, h3, hJ2 s3, PostS.step ((st.trans s2).trans s3) hp⟩
          | ct ls2 S2 => rw [e3] at hp; exact fun ρ3 H3 σ3 s3 h3 hs3 => ⟨ρ3, ls2, S2, hs3, h3, hJ2 s3, PostS.step ((st.trans s2).trans s3) hp⟩
          | bk ls2 S2 => rw [e3] at hp; exact fun ρ3 H3 σ3 s3 h3 hs3 => hp ρ3 H3 σ3 ((st.trans s2).trans s3) h3 hs3
          | rt v S2 => rw [e3] at hp; exact fun ρ3 H3 x s3 => hp ρ3 H3 x ((st.trans s2).trans s3)
          | exc c fs ls2 S2 => rw [e3] at hp; exact fun ρ3 H3 σ3 d s3 => hp ρ3 H3 σ3 d ((st.trans s2).trans s3)
          | stuck => rw [e3] at hp; exact hp.elim
def whileGo (t : TM) (m : SM) : Nat → LSt → Sto → SRes
  | 0, _, _ => .stuck
  | n + 1, ls, S => toS (t ls S) ls fun k S1 => if k = true then (match m ls S1 with
      | .nx ls2 S2 => whileGo t m n ls2 S2
      | .ct ls2 S2 => whileGo t m n ls2 S2
      | .bk ls2 S2 => .nx ls2 S2
      | r => r) else .nx ls S1
@[simp] def sWhile (t : TM) (m : SM) : SM := fun ls S => whileGo t m 100000 ls S
theorem s_while {body : List Stmt} (hp : PassesOwn (model X.prog X.w) X.A X.env X.xe) (hc : PT X c (upT G Wx ta)) (hb : PSs X body (upS G Wx m1)) : PS X (.While c body [] pos) (upS G Wx (sWhile ta m1)) := by
  refine PS.imp ?_ (ps_while hp hc hb)
  rintro D σ H ⟨ρ, ls, S, hs, hh, hp⟩
  refine ⟨fun n σ H => ∃ ρ ls S, RelS G ρ H ls σ ∧ RelH G ρ H S ∧ PostS G ρ H Wx D (whileGo ta m1 n ls S), ⟨_, ρ, ls, S, hs, hh, hp⟩, ?_⟩
  rintro n σ H ⟨ρ, ls, S, hs, hh, hp⟩
  cases n with
  | zero => exact hp.elim
  | succ n =>
    simp only [whileGo] at hp
    refine ⟨ρ, ls, S, hs, hh, (PostS.of hs hp).mono fun k S1 ρ1 H1 s1 h1 q => ?_⟩
    show if k = true then _ else _
    cases k with
    | false => exact q ρ1 H1 σ .refl h1 (hs.step s1)
    | true =>
      simp only [if_true] at q ⊢
      refine ⟨fun σ' H' => ∃ ρ ls S, RelS G ρ H' ls σ' ∧ RelH G ρ H' S ∧ PostS G ρ H' Wx D (whileGo ta m1 n ls S), fun σ' H' h => ⟨n, Nat.lt_succ_self n, h⟩, ρ1, ls, S1, hs.step s1, h1, ?_⟩
      cases e3 : m1 ls S1 with
      | nx ls2 S2 => rw [e3] at q; exact fun ρ3 H3 σ3 s3 h3 hs3 => ⟨ρ3, ls2, S2, hs3, h3, PostS.step s3 q⟩
      | ct ls2 S2 => rw [e3] at q; exact fun ρ3 H3 σ3 s3 h3 hs3 => ⟨ρ3, ls2, S2, hs3, h3, PostS.step s3 q⟩
      | bk ls2 S2 => rw [e3] at q; exact q
      | rt v S2 => rw [e3] at q; exact q
      | exc c fs ls2 S2 => rw [e3] at q; exact q
      | stuck => rw [e3] at q; exact q.elim
end
end Mp
set_option Elab.async false
set_option linter.all false
set_option maxRecDepth 100000
set_option maxHeartbeats 4000000
namespace Mp
open PySem PySem.Spec PyProof.Rows L2
section
variable {G : Gi}
/-! ### the store grows, changes -/
theorem RelOb.step {ρ H ρ' H' l ob} (s : Step ρ H ρ' H') (k : ∀ a, ρ l = some a → H' a = H a) (h : RelOb G ρ H l ob) : RelOb G ρ' H' l ob := by
  cases ob with
  | lst ws =>
    obtain ⟨a, xs, e, e2, r⟩ := h
    exact ⟨a, xs, s.sub l a e, (k a e).trans e2, r.step s⟩
  | dct kvs =>
    obtain ⟨a, xs, e, e2, el, r⟩ := h
    exact ⟨a, xs, s.sub l a e, (k a e).trans e2, el, r.step s⟩
  | obj c fs =>
    obtain ⟨a, xs, dx, e, e2, el, r⟩ := h
    exact ⟨a, xs, dx, s.sub l a e, (k a e).trans e2, el, r.step s⟩
  | dead => trivial
theorem Step.lay {ρ : Rho} {H : Hp} {p : Addr} {o : HO} (hp : H p = none) : Step ρ H ρ (upd H p o) :=
  ⟨fun _ _ h => h, fun _ _ h => .inl h, fun a u h _ _ => by rw [upd_ne (ne_of_none h hp)]; exact h, fun a h u e => h u (by rw [upd_ne (ne_of_none e hp)]; exact e), fun _ h => h⟩
theorem upd_ext {H : Hp} {p : Addr} {o : HO} (hp : H p = none) : ∀ b u, H b = some u → upd H p o b = some u := fun b u e => by rw [upd_ne (ne_of_none e hp)]; exact e
/-- a thing that is no place of the store -/
theorem RelH.lay {ρ H S p o} (hh : RelH G ρ H S) (hp : H p = none) : RelH G ρ (upd H p o) S :=
  ⟨hh.inj, fun l a e => ⟨(hh.dom l a e).1, by
    obtain ⟨_, u, h1, h2⟩ := hh.dmn l a e
    exact ⟨u, upd_ext hp a u h1, h2⟩⟩, fun l ob e => (hh.at_ l ob e).step (Step.lay hp) fun a ea => upd_ne fun z => (hh.dom l a ea).2 (by rw [z]; exact hp), hh.hot, hh.tabs.ext (upd_ext hp), G.stab (Step.lay hp) hh.inv⟩
theorem RelH.cold {ρ H S p} (hh : RelH G ρ H S) (hp : H p = none) : Cold ρ p := fun l _ e => (hh.dom l p e).2 hp
theorem tup_new {ρ H S p ws xs} (hh : RelH G ρ H S) (hp : H p = none) (r : RelWs G ρ H ws xs) : RelW G ρ (upd H p (.tup xs)) (.tup ws) (.ref p) :=
  ⟨p, xs, rfl, .inl ⟨hh.cold hp, .of upd_same⟩, r.step (Step.lay hp)⟩
def ext (ρ : Rho) (l : Nat) (p : Addr) : Rho := ⟨fun k => if k = l then some p else ρ k, ρ.fz⟩
theorem ext_same {ρ l p} : ext ρ l p l = some p := by unfold ext; simp only [if_pos]
theorem ext_ne {ρ l p k} (h : k ≠ l) : ext ρ l p k = ρ k := by unfold ext; simp only [if_neg h]
theorem RelH.top {ρ H S} (hh : RelH G ρ H S) : ρ S.length = none := by
  cases e : ρ S.length with
  | none => rfl
  | some a => exact absurd (hh.dom _ a e).1 (Nat.lt_irrefl _)
theorem Step.new_ {ρ H S p o} (hh : RelH G ρ H S) (hp : H p = none) : Step ρ H (ext ρ S.length p) (upd H p o) :=
  ⟨fun l a e => by
      rw [ext_ne (fun z => by rw [z, hh.top] at e; cases e)]; exact e,
    fun l a e => by
      by_cases z : l = S.length
      · subst z; rw [ext_same] at e; cases e; exact .inr fun u q => by rw [hp] at q; cases q
      · rw [ext_ne z] at e; exact .inl e,
    (Step.lay hp (ρ := ρ)).kp, (Step.lay hp (ρ := ρ)).back, fun _ h => h⟩
theorem RelH.new_ {ρ H S p o ob} (hh : RelH G ρ H S) (hp : H p = none) (ho : RelOb G (ext ρ S.length p) (upd H p o) S.length ob) (hk : okO o = true := by rfl) : RelH G (ext ρ S.length p) (upd H p o) (S ++ [ob]) := by
  have st := Step.new_ (o := o) hh hp
  have ne : ∀ l a, ρ l = some a → a ≠ p := fun l a e z => (hh.dom l a e).2 (by rw [z]; exact hp)
  refine ⟨fun l l' a e e' => ?_, fun l a e => ?_, fun l ob' e => ?_, fun l e => ?_, hh.tabs.ext (upd_ext hp), G.stab st hh.inv⟩
  · by_cases z : l = S.length
    · subst z
      rw [ext_same] at e; cases e
      by_cases z' : l' = S.length
      · exact z'.symm
      · rw [ext_ne z'] at e'; exact absurd rfl (ne l' p e')
    · rw [ext_ne z] at e
      by_cases z' : l' = S.length
      · subst z'; rw [ext_same] at e'; cases e'; exact absurd rfl (ne l p e)
      · rw [ext_ne z'] at e'; exact hh.inj l l' a e e'
  · by_cases z : l = S.length
    · subst z; rw [ext_same] at e; cases e; exact ⟨by simp, o, upd_same, hk⟩
    · rw [ext_ne z] at e
      exact ⟨by have := (hh.dom l a e).1; simp; omega, by obtain ⟨_, u, h1, h2⟩ := hh.dmn l a e; exact ⟨u, by rw [upd_ne (ne l a e)]; exact h1, h2⟩⟩
  · by_cases z : l < S.length
    · rw [List.getElem?_append_left z] at e
      refine (hh.at_ l ob' e).step st fun a ea => ?_
      exact upd_ne (ne l a ea)
    · have hl : l = S.length := by
        have := (List.getElem?_eq_some_iff.mp e).1
        simp at this; omega
      subst hl
      simp at e
      subst e
      exact ho
  · have h2 := hh.hot l e
    have hl : l < S.length := (List.getElem?_eq_some_iff.mp h2).1
    rw [List.getElem?_append_left hl]
    exact h2
theorem lst_new {ρ H S p ws xs} (hh : RelH G ρ H S) (hp : H p = none) (r : RelWs G ρ H ws xs) : RelH G (ext ρ S.length p) (upd H p (.lst xs)) (S ++ [.lst ws]) :=
  hh.new_ hp ⟨p, xs, ext_same, upd_same, r.step (Step.new_ hh hp)⟩
theorem Step.put {ρ : Rho} {H : Hp} {l : Nat} {a : Addr} {o : HO} (e : ρ l = some a) (hw : ρ.fz l = false) (hn : Wm H a) (ho : okO o = true := by rfl) : Step ρ H ρ (upd H a o) :=
  ⟨fun _ _ h => h, fun _ _ h => .inl h, fun b u h c _ => by rw [upd_ne (fun z => c l hw (by rw [z]; exact e))]; exact h, fun b h u q => by
    by_cases z : b = a
    · subst z; have := h o upd_same; rw [okO_T ho] at this; cases this
    · exact h u (by rw [upd_ne z]; exact q), fun _ h => h⟩
theorem tabs_put {T : List (Addr × Str)} {H : Hp} {a : Addr} {o : HO} (t : LamX.Tabs T H) (hn : Wm H a) : LamX.Tabs T (upd H a o) := fun p hp => by
  obtain ⟨o0, e0, k0⟩ := hn
  obtain ⟨ps, h1, h2, h3⟩ := t p hp
  refine ⟨ps, ?_, h2, fun pos cv hc => ?_⟩
  · rw [upd_ne ?_]
    · exact h1
    · rintro z; rw [z, e0] at h1; cases h1; cases k0
  · obtain ⟨c, rfl, h4⟩ := h3 pos cv hc
    refine ⟨c, rfl, ?_⟩
    rw [upd_ne ?_]
    · exact h4
    · rintro z
      rw [z, e0] at h4
      have h5 := Option.some.inj h4
      rw [h5] at k0
      cases (show false = true from k0)
theorem RelH.put {ρ H S l a o ob} (hh : RelH G ρ H S) (e : ρ l = some a) (hw : ρ.fz l = false) (hn : Wm H a) (ho : RelOb G ρ (upd H a o) l ob) (hk : okO o = true := by rfl) : RelH G ρ (upd H a o) (S.set l ob) := by
  have st := Step.put (o := o) e hw hn hk
  refine ⟨hh.inj, fun k b q => ⟨by rw [List.length_set]; exact (hh.dom k b q).1, ?_⟩, fun k ob' q => ?_, fun k q => by
    by_cases z : l = k
    · subst z; rw [hw] at q; cases q
    · rw [List.getElem?_set_ne z]; exact hh.hot k q, tabs_put hh.tabs hn, G.stab st hh.inv⟩
  · by_cases y : b = a
    · subst y; exact ⟨o, upd_same, hk⟩
    · obtain ⟨_, u, h1, h2⟩ := hh.dmn k b q; exact ⟨u, by rw [upd_ne y]; exact h1, h2⟩
  by_cases z : l = k
  · subst z
    have hl : l < S.length := (hh.dom l a e).1
    rw [List.getElem?_set_self hl] at q
    cases q
    exact ho
  · rw [List.getElem?_set_ne z] at q
    exact (hh.at_ k ob' q).step st fun b eb => upd_ne fun y => z (hh.inj l k a e (by rw [← y]; exact eb))
theorem lst_put {ρ H S l a ws xs} (hh : RelH G ρ H S) (e : ρ l = some a) (hw : ρ.fz l = false) (hn : Wm H a) (r : RelWs G ρ H ws xs) : RelH G ρ (upd H a (.lst xs)) (S.set l (.lst ws)) :=
  hh.put e hw hn ⟨a, xs, e, upd_same, r.step (Step.put e hw hn)⟩
/-- a place's list is read -/
theorem rel_lst {ρ H S l x ws} (hh : RelH G ρ H S) (r : RelW G ρ H (.loc l) x) (e : S[l]? = some (.lst ws)) : ∃ a xs, x = .ref a ∧ ρ l = some a ∧ H a = some (.lst xs) ∧ RelWs G ρ H ws xs := by
  obtain ⟨a, ea, rfl⟩ := r
  obtain ⟨a', xs, e1, e2, rs⟩ := hh.lst e
  rw [ea] at e1; cases e1
  exact ⟨a, xs, rfl, ea, e2, rs⟩
end
section
variable {X : Cx} {G : Gi} {Wx : WX} {a b c : Expr} {fa fb fc : EM} {pos pos' : Pos} {es : List Expr} {fs : AM} {ta tb : TM}
/-! ### argument lists, displays -/
@[simp] def aNil : AM := fun _ S => .ok [] S
@[simp] def aCons (f : EM) (g : AM) : AM := fun ls S => (f ls S).bind fun v S1 => (g ls S1).bind fun vs S2 => .ok (v :: vs) S2
theorem a_nil : PA X [] (upA G Wx aNil) := PA.imp (fun σ H Q ⟨ρ, ls, S, hs, hh, hp⟩ => hp ρ H .refl hh [] rfl) pa_nil
theorem a_cons (h : PE X a (upE G Wx fa)) (h2 : PA X es (upA G Wx fs)) (hs : starEach (a :: es) X.env = (false, eval a X.env) :: starEach es X.env := by rfl) : PA X (a :: es) (upA G Wx (aCons fa fs)) :=
  PA.imp (fun σ H Q ⟨ρ, ls, S, hs, hh, hp⟩ => ⟨ρ, ls, S, hs, hh, (Post.bind hp).mono fun v S1 ρ1 H1 s1 h1 q x rx => ⟨ρ1, ls, S1, hs.step s1, h1, (Post.bind q).mono fun vs S2 ρ2 H2 s2 h2 q2 xs rs => q2 ρ2 H2 .refl h2 (x :: xs) ⟨x, xs, rfl, rx.step s2, rs⟩⟩⟩) (pa_cons h h2 hs)
@[simp] def eTup (f : AM) : EM := fun ls S => (f ls S).bind fun vs S1 => if vs.length ≤ big then .ok (.tup vs) S1 else .stuck
@[simp] def newL (ws : List W) : M W := fun S => if ws.length ≤ big then .ok (.loc S.length) (S ++ [.lst ws]) else .stuck
@[simp] def eLst (f : AM) : EM := fun ls S => (f ls S).bind fun vs S1 => newL vs S1
theorem e_tup {k : Nat} (h : PA X es (upA G Wx fs)) : PE X (.Tuple es k pos) (upE G Wx (eTup fs)) :=
  PE.imp (fun σ H Q ⟨ρ, ls, S, hs, hh, hp⟩ => ⟨ρ, ls, S, hs, hh, (Post.bind hp).mono fun vs S1 ρ1 H1 s1 h1 q xs rs => by
    by_cases hz : vs.length ≤ big
    · rw [if_pos hz] at q
      exact ⟨by rw [← rs.len]; exact le_line hz, fun p np => q ρ1 _ (Step.lay np) (h1.lay np) _ (tup_new h1 np rs)⟩
    · rw [if_neg hz] at q; exact q.elim⟩) (pe_tup h)
theorem newL_post {ρ H ws xs S Q E} (hh : RelH G ρ H S) (rs : RelWs G ρ H ws xs) (q : Post G ρ H (newL ws S) (QW G Q) E) : xs.length ≤ sizeLine ∧ ∀ p, H p = none → Q (.ref p) (upd H p (.lst xs)) := by
  unfold newL at q
  by_cases hz : ws.length ≤ big
  · rw [if_pos hz] at q
    exact ⟨by rw [← rs.len]; exact le_line hz, fun p np => q _ _ (Step.new_ hh np) (lst_new hh np rs) _ ⟨p, ext_same, rfl⟩⟩
  · rw [if_neg hz] at q; exact q.elim
theorem e_lst (h : PA X es (upA G Wx fs)) : PE X (.List es pos) (upE G Wx (eLst fs)) :=
  PE.imp (fun σ H Q ⟨ρ, ls, S, hs, hh, hp⟩ => ⟨ρ, ls, S, hs, hh, (Post.bind hp).mono fun vs S1 ρ1 H1 s1 h1 q xs rs => newL_post h1 rs q⟩) (pe_lst h)
/-! ### operators -/
theorem OpR.or {f : Value → Value → Sem Value} {r r' : R2} (p : OpR X f r) (p' : OpR X f r') : OpR X f (fun x y H Q => r x y H Q ∨ r' x y H Q) := fun pins s σ H x y v u Q I rx ry q => q.elim (p pins s σ H x y v u Q I rx ry) (p' pins s σ H x y v u Q I rx ry)
/-- ints in, a value out, where C holds -/
@[simp] def opII (C : Int → Int → Bool) (g : Int → Int → W) : W → W → M W := fun v u S => match v, u with
  | .int i, .int j => if C i j = true then .ok (g i j) S else .stuck
  | _, _ => .stuck
theorem o_II {f : Value → Value → Sem Value} {D : Int → Int → Prop} {C : Int → Int → Bool} {g : Int → Int → V} {g' : Int → Int → W} (h : OpR X f (rI D g)) (hc : ∀ i j, C i j = true → D i j) (hg : ∀ i j ρ H, RelW G ρ H (g' i j) (g i j)) : OpR X f (upR G (opII C g')) :=
  OpR.imp (fun x y H Q ⟨ρ, v, u, S, rv, ru, hh, hp⟩ => by
    cases v with
    | int i =>
      cases u with
      | int j =>
        simp only [opII] at hp
        by_cases e : C i j = true
        · rw [if_pos e] at hp
          exact ⟨i, j, rv, ru, hc i j e, hp ρ H .refl hh _ (hg i j ρ H)⟩
        · rw [if_neg e] at hp; exact hp.elim
      | _ => exact hp.elim
    | _ => exact hp.elim) h
theorem rI_of {g : Int → Int → V} {f : Value → Value → Sem Value} (h : OpR X f (rI0 g)) : OpR X f (rI (fun _ _ => True) g) := OpR.imp (fun x y H Q ⟨i, j, a, b, _, q⟩ => ⟨i, j, a, b, q⟩) h
@[simp] def yes2 : Int → Int → Bool := fun _ _ => true
@[simp] def subW : W → W → M W := opII yes2 fun i j => .int (i - j)
theorem o_sub : OpR X (binaryOp .Sub) (upR G subW) := o_II (rI_of op_sub) (fun _ _ _ => trivial) fun _ _ _ _ => rfl
@[simp] def mulC (i j : Int) : Bool := (decide (-18446744073709551616 < i) && decide (i < 18446744073709551616)) || (decide (-18446744073709551616 < j) && decide (j < 18446744073709551616))
@[simp] def mulI : W → W → M W := opII mulC fun i j => .int (i * j)
theorem o_mulI : OpR X (binaryOp .Mult) (upR G mulI) := o_II op_mul (fun i j h => by
  simp only [mulC, Bool.or_eq_true, Bool.and_eq_true, decide_eq_true_eq] at h
  unfold CMul
  omega) fun _ _ _ _ => rfl
@[simp] def divW : W → W → M W := opII (fun _ j => decide (0 < j) && decide (j < 1073741824)) fun i j => .int (i / j)
theorem o_div : OpR X (binaryOp .FloorDiv) (upR G divW) := o_II op_fdiv (fun i j h => by
  simp only [Bool.and_eq_true, decide_eq_true_eq] at h
  exact h) fun _ _ _ _ => rfl
@[simp] def modW : W → W → M W := opII (fun _ j => decide (0 < j)) fun i j => .int (i % j)
theorem o_mod : OpR X (binaryOp .Mod) (upR G modW) := o_II op_mod (fun i j h => of_decide_eq_true h) fun _ _ _ _ => rfl
/-- a power, not opened by simp -/
def powZ (i j : Int) : Int := i ^ j.toNat
@[simp] def powW : W → W → M W := opII (fun i j => decide (0 ≤ j) && decide (j ≤ 1000000) && decide (i.natAbs < 18446744073709551616)) fun i j => .int (powZ i j)
theorem o_pow : OpR X (binaryOp .Pow) (upR G powW) := o_II op_pow (fun i j h => by
  simp only [Bool.and_eq_true, decide_eq_true_eq] at h
  exact ⟨h.1.1, h.1.2, h.2⟩) fun _ _ _ _ => rfl
@[simp] def ltI : W → W → M W := opII yes2 fun i j => .bl (decide (i < j))
@[simp] def leI : W → W → M W := opII yes2 fun i j => .bl (decide (i ≤ j))
@[simp] def gtI : W → W → M W := opII yes2 fun i j => .bl (decide (j < i))
@[simp] def geI : W → W → M W := opII yes2 fun i j => .bl (decide (j ≤ i))
theorem o_gtI : OpR X (compareOp .Gt) (upR G gtI) := o_II (rI_of op_gt) (fun _ _ _ => trivial) fun _ _ _ _ => rfl
theorem o_geI : OpR X (compareOp .GtE) (upR G geI) := o_II (rI_of op_ge) (fun _ _ _ => trivial) fun _ _ _ _ => rfl
/-- +: ints, texts, lists, tuples -/
@[simp] def addW : W → W → M W := fun v u S => match v, u with
  | .int i, .int j => .ok (.int (i + j)) S
  | .str x, .str y => if x.length + y.length ≤ big then .ok (.str (x ++ y)) S else .stuck
  | .tup ws, .tup us => if ws.length + us.length ≤ big then .ok (.tup (ws ++ us)) S else .stuck
  | .loc l, .loc k => match S[l]?, S[k]? with
    | some (.lst ws), some (.lst us) => if (ws ++ us).length ≤ big then .ok (.loc S.length) (S ++ [.lst (ws ++ us)]) else .stuck
    | _, _ => .stuck
  | _, _ => .stuck
theorem append_nil_iff {ws : List W} {xs : List V} (h : ws.length = xs.length) : ws = [] ↔ xs = [] := by
  cases ws <;> cases xs <;> simp_all
theorem o_add (hK : G.K = X.K) : OpR X (binaryOp .Add) (upR G addW) := by
  refine OpR.imp ?_ (OpR.or op_add (OpR.or op_add_str (OpR.or op_catA op_cat)))
  rintro x y H Q ⟨ρ, v, u, S, rv, ru, hh, hp⟩
  cases v with
  | int i =>
    cases u with
    | int j => exact .inl ⟨i, j, rv, ru, hp ρ H .refl hh _ rfl⟩
    | _ => exact hp.elim
  | str z =>
    cases u with
    | str z' =>
      simp only [addW] at hp
      by_cases e : z.length + z'.length ≤ big
      · rw [if_pos e] at hp
        exact .inr (.inl ⟨z, z', rv, ru, le_line e, hp ρ H .refl hh _ rfl⟩)
      · rw [if_neg e] at hp; exact hp.elim
    | _ => exact hp.elim
  | tup ws =>
    cases u with
    | tup us =>
      simp only [addW] at hp
      by_cases e : ws.length + us.length ≤ big
      · rw [if_pos e] at hp
        obtain ⟨a, xs, rfl, t1, r1⟩ := rv
        obtain ⟨b, ys, rfl, t2, r2⟩ := ru
        refine .inr (.inr (.inl ⟨a, b, xs, ys, rfl, rfl, by rw [← hK]; exact t1.sq, by rw [← hK]; exact t2.sq, by rw [← r1.len, ← r2.len]; exact le_line e, fun z => ?_, fun z z2 => ?_, fun z z2 p np => ?_⟩))
        · have : ws = [] := (append_nil_iff r1.len).mpr z
          subst this
          exact hp ρ H .refl hh _ ⟨b, ys, rfl, t2, r2⟩
        · have : us = [] := (append_nil_iff r2.len).mpr z2
          subst this
          rw [List.append_nil] at hp
          exact hp ρ H .refl hh _ ⟨a, xs, rfl, t1, r1⟩
        · exact hp ρ _ (Step.lay np) (hh.lay np) _ (tup_new hh np (r1.append r2))
      · rw [if_neg e] at hp; exact hp.elim
    | _ => exact hp.elim
  | loc l =>
    cases u with
    | loc k =>
      simp only [addW] at hp
      cases q1 : S[l]? with
      | none => rw [q1] at hp; exact hp.elim
      | some ob =>
        cases ob with
        | lst ws =>
          rw [q1] at hp
          cases q2 : S[k]? with
          | none => rw [q2] at hp; exact hp.elim
          | some ob2 =>
            cases ob2 with
            | lst us =>
              rw [q2] at hp
              obtain ⟨a, xs, rfl, _, e1, r1⟩ := rel_lst hh rv q1
              obtain ⟨b, ys, rfl, _, e2, r2⟩ := rel_lst hh ru q2
              have := newL_post (Q := Q) (E := NoE) hh (r1.append r2) (by unfold newL; exact hp)
              exact .inr (.inr (.inr ⟨a, b, xs, ys, rfl, rfl, e1, e2, by have := this.1; rwa [List.length_append] at this, this.2⟩))
            | _ => rw [q2] at hp; exact hp.elim
        | _ => rw [q1] at hp; exact hp.elim
    | _ => exact hp.elim
  | _ => exact hp.elim
/-! ### subscripts -/
theorem IxR.imp {r r' : R2} (h : ∀ x y H Q, r' x y H Q → r x y H Q) (p : IxR X r) : IxR X r' := fun value slice pins s σ H x y v u Q I rx ry q hs => p value slice pins s σ H x y v u Q I rx ry (h x y H Q q) hs
@[simp] def atW (ws : List W) (i : Int) : Option W := (ixN ws.length i).bind fun j => ws[j]?
theorem atW_rel {ρ H ws xs i w} (r : RelWs G ρ H ws xs) (e : atW ws i = some w) : ∃ x, atI xs i = some x ∧ RelW G ρ H w x := by
  unfold atW at e
  unfold atI
  rw [r.len] at e
  cases q : ixN xs.length i with
  | none => rw [q] at e; cases e
  | some j =>
    rw [q] at e
    obtain ⟨x, hx, rx⟩ := r.get e
    exact ⟨x, hx, rx⟩
@[simp] def ixW : W → W → M W := fun v u S => match v, u with
  | .loc l, .int i => match S[l]? with
    | some (.lst ws) => match atW ws i with
      | some w => .ok w S
      | none => .stuck
    | _ => .stuck
  | .tup ws, .int i => match atW ws i with
    | some w => .ok w S
    | none => .stuck
  | .str z, .int i => if z.length ≤ big then (match atI z.cps.toList i with
    | some c => .ok (.str ⟨#[c]⟩) S
    | none => .stuck) else .stuck
  | _, _ => .stuck
theorem x_ix (hK : G.K = X.K) : IxR X (upR G ixW) := by
  refine IxR.imp ?_ (IxR.or ix_list (IxR.or ix_tup ix_str))
  rintro x y H Q ⟨ρ, v, u, S, rv, ru, hh, hp⟩
  cases v with
  | loc l =>
    cases u with
    | int i =>
      simp only [ixW] at hp
      cases q1 : S[l]? with
      | none => rw [q1] at hp; exact hp.elim
      | some ob =>
        cases ob with
        | lst ws =>
          rw [q1] at hp
          simp only at hp
          cases q2 : atW ws i with
          | none => rw [q2] at hp; exact hp.elim
          | some w =>
            rw [q2] at hp
            obtain ⟨a, xs, rfl, _, e1, r1⟩ := rel_lst hh rv q1
            obtain ⟨z, hz, rz⟩ := atW_rel r1 q2
            exact .inl ⟨a, xs, i, z, rfl, ru, .of e1, hz, hp ρ H .refl hh _ rz⟩
        | _ => rw [q1] at hp; exact hp.elim
    | _ => exact hp.elim
  | tup ws =>
    cases u with
    | int i =>
      simp only [ixW] at hp
      cases q2 : atW ws i with
      | none => rw [q2] at hp; exact hp.elim
      | some w =>
        rw [q2] at hp
        obtain ⟨a, xs, rfl, t1, r1⟩ := rv
        obtain ⟨z, hz, rz⟩ := atW_rel r1 q2
        exact .inr (.inl ⟨a, xs, i, z, rfl, ru, by rw [← hK]; exact t1.sq, hz, hp ρ H .refl hh _ rz⟩)
    | _ => exact hp.elim
  | str z =>
    cases u with
    | int i =>
      simp only [ixW] at hp
      by_cases e : z.length ≤ big
      · rw [if_pos e] at hp
        cases q2 : atI z.cps.toList i with
        | none => rw [q2] at hp; exact hp.elim
        | some c =>
          rw [q2] at hp
          exact .inr (.inr ⟨z, i, c, rv, ru, le_line e, q2, hp ρ H .refl hh _ rfl⟩)
      · rw [if_neg e] at hp; exact hp.elim
    | _ => exact hp.elim
  | _ => exact hp.elim
theorem e_ix (hK : G.K = X.K) (ha : PE X a (upE G Wx fa)) (hb : PE X b (upE G Wx fb)) (hs : PlainIx b) : PE X (.Subscript a b pos) (upE G Wx (bin ixW fa fb)) := PE.imp tOp_of (pe_ix (x_ix hK) ha hb hs)
/-- xs[i] = e -/
@[simp] def gIx (f g : EM) : GM := fun w ls S => match f ls S with
  | .ok (.loc l) S1 => match g ls S1 with
    | .ok (.int i) S2 => match S2[l]? with
      | some (.lst ws) => match ixN ws.length i with
        | some j => some (ls, S2.set l (.lst (ws.set j w)))
        | none => none
      | _ => none
    | _ => none
  | _ => none
theorem g_ix (ha : PE X a (upE G Wx fa)) (hb : PE X b (upE G Wx fb)) (h : PG X (.Subscript a b pos) (gSub (upE G Wx fa) (upE G Wx fb) rSetL)) : PG X (.Subscript a b pos) (upG G (gIx fa fb)) := by
  refine PG.imp ?_ h
  rintro v σ H Q ⟨ρ, w, ls, S, rw', hs, hh, q⟩
  simp only [gIx] at q
  refine ⟨ρ, ls, S, hs, hh, ?_⟩
  cases e1 : fa ls S with
  | exc c fs S' => rw [e1] at q; exact q.elim
  | stuck => rw [e1] at q; exact q.elim
  | ok lv S1 =>
    rw [e1] at q
    cases lv with
    | loc l =>
      intro ρ1 H1 s1 h1 x rx
      refine ⟨ρ1, ls, S1, hs.step s1, h1, ?_⟩
      simp only at q
      cases e2 : fb ls S1 with
      | exc c fs S' => rw [e2] at q; exact q.elim
      | stuck => rw [e2] at q; exact q.elim
      | ok iv S2 =>
        rw [e2] at q
        cases iv with
        | int i =>
          simp only at q
          intro ρ2 H2 s2 h2 y ry
          cases e3 : S2[l]? with
          | none => rw [e3] at q; exact q.elim
          | some ob =>
            cases ob with
            | lst ws =>
              rw [e3] at q
              simp only at q
              cases e4 : ixN ws.length i with
              | none => rw [e4] at q; exact q.elim
              | some j =>
                rw [e4] at q
                obtain ⟨p, xs, rfl, ep, eh, rs⟩ := rel_lst h2 (RelW.step s2 rx) e3
                have hw := h2.warm e3 (by simp)
                have st := (s1.trans s2).trans (Step.put (o := .lst (xs.set j v)) ep hw ⟨_, eh, rfl⟩)
                exact ⟨p, xs, i, j, rfl, ry, eh, by rw [← rs.len]; exact e4, q ρ2 _ σ st (lst_put h2 ep hw ⟨_, eh, rfl⟩ (rs.set ((rw'.step s1).step s2) j)) (hs.step st)⟩
            | _ => rw [e3] at q; exact q.elim
        | _ => exact q.elim
    | _ => exact q.elim
end
end Mp
set_option Elab.async false
set_option linter.all false
set_option maxRecDepth 100000
set_option maxHeartbeats 4000000
namespace Mp
open PySem PySem.Spec PyProof.Rows L2
section
variable {X : Cx} {G : Gi} {Wx : WX} {a b c e : Expr} {fa fb fc : EM} {pos pos' p p2 : Pos} {es : List Expr} {fs : AM} {ta tb : TM} {x : Str}
/-! ### slices -/
abbrev OM := LSt → M (Option Int)
def upO (G : Gi) (X : WX) (f : OM) : TO := fun σ H Q => ∃ ρ ls S, RelS G ρ H ls σ ∧ RelH G ρ H S ∧ Post G ρ H (f ls S) (fun v _ _ H' => Q v H') fun c d H' => X c d σ H'
theorem PO.imp {e : Option Expr} {t t' : TO} (h : ∀ σ H Q, t' σ H Q → t σ H Q) (p : PO X e t) : PO X e t' := ⟨fun pins s σ H Q I q => p.run pins s σ H Q I (h σ H Q q)⟩
@[simp] def oNone : OM := fun _ S => .ok none S
@[simp] def oSome (f : EM) : OM := fun ls S => (f ls S).bind fun v S1 => match v with
  | .int i => .ok (some i) S1
  | _ => .stuck
theorem o_none : PO X none (upO G Wx oNone) := PO.imp (fun σ H Q ⟨ρ, ls, S, hs, hh, hp⟩ => hp ρ H .refl hh) po_none
theorem o_some (h : PE X a (upE G Wx fa)) : PO X (some a) (upO G Wx (oSome fa)) :=
  PO.imp (fun σ H Q ⟨ρ, ls, S, hs, hh, hp⟩ => ⟨ρ, ls, S, hs, hh, (Post.bind hp).mono fun v S1 ρ1 H1 s1 h1 q x rx => by
    cases v with
    | int i => exact ⟨i, rx, q ρ1 H1 .refl h1⟩
    | _ => exact q.elim⟩) (po_some h)
@[simp] def cutW (ws : List W) (lo hi : Option Int) : List W := (ws.drop (HT.sIx ws.length 0 lo)).take (HT.sIx ws.length ws.length hi - HT.sIx ws.length 0 lo)
theorem RelWs.drop {ρ H} : ∀ {ws : List W} {xs : List V} (n : Nat), RelWs G ρ H ws xs → RelWs G ρ H (ws.drop n) (xs.drop n)
  | _, _, 0, h => by simpa using h
  | [], _, n + 1, h => by subst h; exact rfl
  | w :: ws, _, n + 1, ⟨y, ys, e, _, r⟩ => by subst e; exact RelWs.drop n r
theorem RelWs.take {ρ H} : ∀ {ws : List W} {xs : List V} (n : Nat), RelWs G ρ H ws xs → RelWs G ρ H (ws.take n) (xs.take n)
  | _, _, 0, h => by simp only [List.take_zero]; exact rfl
  | [], _, n + 1, h => by subst h; exact rfl
  | w :: ws, _, n + 1, ⟨y, ys, e, r1, r⟩ => by subst e; exact ⟨y, _, rfl, r1, RelWs.take n r⟩
theorem RelWs.cut {ρ H} {ws : List W} {xs : List V} {lo hi} (r : RelWs G ρ H ws xs) : RelWs G ρ H (cutW ws lo hi) (cutV xs lo hi) := by
  unfold cutW cutV
  rw [r.len]
  exact (r.drop _).take _
theorem cutV_le {α : Type} {xs : List α} {n m : Nat} : ((xs.drop n).take m).length ≤ xs.length := by
  rw [List.length_take, List.length_drop]; omega
@[simp] def slW : W → Option Int → Option Int → M W := fun v lo hi S => match v with
  | .loc l => match S[l]? with
    | some (.lst ws) => .ok (.loc S.length) (S ++ [.lst (cutW ws lo hi)])
    | _ => .stuck
  | .tup ws => .ok (.tup (cutW ws lo hi)) S
  | .str z => if z.length ≤ big then .ok (.str (cutS z lo hi)) S else .stuck
  | _ => .stuck
theorem cut_whole {α : Type} {xs : List α} {n m k : Nat} (h1 : n = 0) (h2 : m = xs.length) : (xs.drop n).take (m - n) = xs := by
  subst h1 h2; simp
@[simp] def eSl (f : EM) (g h : OM) : EM := fun ls S => (f ls S).bind fun v S1 => (g ls S1).bind fun lo S2 => (h ls S2).bind fun hi S3 => NoX (slW v lo hi S3)
theorem SlR.imp {r r' : V → Option Int → Option Int → Hp → VK → Prop} (h : ∀ x lo hi H Q, r' x lo hi H Q → r x lo hi H Q) (p : SlR X r) : SlR X r' := fun pins s σ H x v vl vu lo hi sl Q I rx hs pl pu q => p pins s σ H x v vl vu lo hi sl Q I rx hs pl pu (h x lo hi H Q q)
def upSl (G : Gi) (op : W → Option Int → Option Int → M W) : V → Option Int → Option Int → Hp → VK → Prop := fun x lo hi H Q => ∃ ρ v S, RelW G ρ H v x ∧ RelH G ρ H S ∧ Post G ρ H (op v lo hi S) (QW G Q) NoE
theorem sl_W (hK : G.K = X.K) : SlR X (upSl G slW) := by
  refine SlR.imp ?_ (SlR.or sl_list (SlR.or sl_tupA sl_str))
  rintro x lo hi H Q ⟨ρ, v, S, rv, hh, hp⟩
  cases v with
  | loc l =>
    simp only [slW] at hp
    cases q1 : S[l]? with
    | none => rw [q1] at hp; exact hp.elim
    | some ob =>
      cases ob with
      | lst ws =>
        rw [q1] at hp
        obtain ⟨a, xs, rfl, _, e1, r1⟩ := rel_lst hh rv q1
        exact .inl ⟨a, xs, rfl, .of e1, fun p np => hp _ _ (Step.new_ hh np) (lst_new hh np r1.cut) _ ⟨p, ext_same, rfl⟩⟩
      | _ => rw [q1] at hp; exact hp.elim
  | tup ws =>
    simp only [slW] at hp
    obtain ⟨a, xs, rfl, t1, r1⟩ := rv
    refine .inr (.inl ⟨a, xs, rfl, by rw [← hK]; exact t1.sq, fun z => ?_, fun z p np => ?_⟩)
    · have e : cutW ws lo hi = ws := by
        unfold cutW
        rw [r1.len]
        exact cut_whole (k := 0) z.1 (by rw [z.2, r1.len])
      rw [e] at hp
      exact hp ρ H .refl hh _ ⟨a, xs, rfl, t1, r1⟩
    · exact hp ρ _ (Step.lay np) (hh.lay np) _ (tup_new hh np r1.cut)
  | str z =>
    simp only [slW] at hp
    by_cases e : z.length ≤ big
    · rw [if_pos e] at hp
      exact .inr (.inr ⟨z, rv, le_line e, hp ρ H .refl hh _ rfl⟩)
    · rw [if_neg e] at hp; exact hp.elim
  | _ => exact hp.elim
theorem e_sl {lo hi : Option Expr} {g h : OM} (hK : G.K = X.K) (ha : PE X a (upE G Wx fa)) (hl : PO X lo (upO G Wx g)) (hu : PO X hi (upO G Wx h)) : PE X (.Subscript a (.Slice lo hi none p2) pos) (upE G Wx (eSl fa g h)) :=
  PE.imp (fun σ H Q ⟨ρ, ls, S, hs, hh, hp⟩ => ⟨ρ, ls, S, hs, hh, (Post.bind hp).mono fun v S1 ρ1 H1 s1 h1 q x rx => ⟨ρ1, ls, S1, hs.step s1, h1, (Post.bind q).mono fun lo S2 ρ2 H2 s2 h2 q2 => ⟨ρ2, ls, S2, (hs.step s1).step s2, h2, (Post.bind q2).mono fun hi S3 ρ3 H3 s3 h3 q3 =>
    ⟨ρ3, v, S3, (rx.step s2).step s3, h3, NoX_post q3⟩⟩⟩⟩) (pe_slice (sl_W hK) ha hl hu)
theorem RelWs.rev {ρ H} : ∀ {ws : List W} {xs : List V}, RelWs G ρ H ws xs → RelWs G ρ H ws.reverse xs.reverse
  | [], _, h => by subst h; exact rfl
  | w :: ws, _, ⟨y, ys, e, r1, r⟩ => by
    subst e
    rw [List.reverse_cons, List.reverse_cons]
    exact (RelWs.rev r).append ⟨y, [], rfl, r1, rfl⟩
@[simp] def revW : W → M W := fun v S => match v with
  | .loc l => match S[l]? with
    | some (.lst ws) => .ok (.loc S.length) (S ++ [.lst ws.reverse])
    | _ => .stuck
  | _ => .stuck
@[simp] def eUn (op : W → M W) (f : EM) : EM := fun ls S => (f ls S).bind fun v S1 => NoX (op v S1)
theorem e_rev {k : Nat} {p1 p3 : Pos} (hK : G.K = X.K) (h : PE X a (upE G Wx fa)) : PE X (.Subscript a (.Slice none none (some (.UnaryOp .USub (.Constant (.int 1) k p1) p2)) p3) pos) (upE G Wx (eUn revW fa)) :=
  PE.imp (fun σ H Q ⟨ρ, ls, S, hs, hh, hp⟩ => ⟨ρ, ls, S, hs, hh, (Post.bind hp).mono fun v S1 ρ1 H1 s1 h1 q x rx => by
    have q := NoX_post (E' := NoE) q
    cases v with
    | loc l =>
      simp only [revW] at q
      cases q1 : S1[l]? with
      | none => rw [q1] at q; exact q.elim
      | some ob =>
        cases ob with
        | lst ws =>
          rw [q1] at q
          obtain ⟨a, xs, rfl, _, e1, r1⟩ := rel_lst h1 rx q1
          exact ⟨a, xs, rfl, by rw [← hK]; exact .of e1, fun p np => q _ _ (Step.new_ h1 np) (lst_new h1 np r1.rev) _ ⟨p, ext_same, rfl⟩⟩
        | _ => rw [q1] at q; exact q.elim
    | _ => exact q.elim⟩) (pe_revL h)
/-! ### unary minus -/
@[simp] def negW : W → M W := fun v S => match v with
  | .int i => .ok (.int (-i)) S
  | _ => .stuck
theorem e_neg (h : PE X a (upE G Wx fa)) : PE X (.UnaryOp .USub a pos) (upE G Wx (eUn negW fa)) :=
  PE.imp (fun σ H Q ⟨ρ, ls, S, hs, hh, hp⟩ => ⟨ρ, ls, S, hs, hh, (Post.bind hp).mono fun v S1 ρ1 H1 s1 h1 q x rx => by
    have q := NoX_post (E' := NoE) q
    cases v with
    | int i => exact ⟨i, rx, q ρ1 H1 .refl h1 _ rfl⟩
    | _ => exact q.elim⟩) (pe_un un_neg h)
/-! ### calls of built-ins -/
abbrev BM := List W → M W
theorem CallR.imp {f : Value} {r r' : List V → Hp → VK → Prop} (h : ∀ xs H Q, r' xs H Q → r xs H Q) (p : CallR X f r) : CallR X f r' := fun pins s σ H xs us Q I rx q => p pins s σ H xs us Q I rx (h xs H Q q)
@[simp] def eCall (op : BM) (f : AM) : EM := fun ls S => (f ls S).bind fun vs S1 => NoX (op vs S1)
theorem tCB_of {op : BM} : ∀ σ H Q, upE G Wx (eCall op fs) σ H Q → tCB (upC G op) (upA G Wx fs) σ H Q := fun σ H Q ⟨ρ, ls, S, hs, hh, hp⟩ =>
  ⟨ρ, ls, S, hs, hh, (Post.bind hp).mono fun vs S1 ρ1 H1 s1 h1 q xs rs => ⟨ρ1, vs, S1, rs, h1, NoX_post q⟩⟩
theorem e_callB {id : String} {op : BM} (hc : CallR X (.builtin id) (upC G op)) (hg : Gl X x) (hm : X.mg x = none) (hv : bootBuiltins x = some (.builtin id)) (ha : PA X (e :: es) (upA G Wx fs)) (hn : x ≠ "__name__" := by decide) (hdb : (x == ("__debug__" : Str)) = false := by decide)
    (he : starEach (e :: es) X.env = (false, eval e X.env) :: starEach es X.env := by rfl) (hpl : (backTo pos (starEach es X.env)).any (·.1) = false := by rfl) : PE X (.Call (.Name x p) (e :: es) [] pos) (upE G Wx (eCall op fs)) :=
  PE.imp tCB_of (pe_callB hc hg hm hv ha hn hdb he hpl)
theorem e_callTy {T : String} {op : BM} (hc : CallR X (.type T) (upC G op)) (hg : Gl X x) (hm : X.mg x = none) (hv : bootBuiltins x = some (.type T)) (ha : PA X (e :: es) (upA G Wx fs)) (hn : x ≠ "__name__" := by decide) (hdb : (x == ("__debug__" : Str)) = false := by decide)
    (he : starEach (e :: es) X.env = (false, eval e X.env) :: starEach es X.env := by rfl) (hpl : (backTo pos (starEach es X.env)).any (·.1) = false := by rfl) : PE X (.Call (.Name x p) (e :: es) [] pos) (upE G Wx (eCall op fs)) :=
  PE.imp tCB_of (pe_callTy hc hg hm hv ha hn hdb he hpl)
theorem rel1 {ρ H w xs} (r : RelWs G ρ H [w] xs) : ∃ x, xs = [x] ∧ RelW G ρ H w x := by
  obtain ⟨y, ys, rfl, h, r⟩ := r
  have : ys = [] := r
  subst this
  exact ⟨y, rfl, h⟩
theorem rel2 {ρ H w u xs} (r : RelWs G ρ H [w, u] xs) : ∃ x y, xs = [x, y] ∧ RelW G ρ H w x ∧ RelW G ρ H u y := by
  obtain ⟨y, ys, rfl, h, r⟩ := r
  obtain ⟨z, rfl, h2⟩ := rel1 r
  exact ⟨y, z, rfl, h, h2⟩
/-- one argument -/
@[simp] def b1 (op : W → M W) : BM := fun vs S => match vs with
  | [v] => op v S
  | _ => .stuck
theorem c_b1 {f : Value} {op : W → M W} (h : CallR X f (fun xs H Q => ∃ x, xs = [x] ∧ upU G op x H Q)) : CallR X f (upC G (b1 op)) :=
  CallR.imp (fun xs H Q ⟨ρ, vs, S, rv, hh, hp⟩ => by
    match vs, hp, rv with
    | [v], hp, rv =>
      obtain ⟨x, rfl, r⟩ := rel1 rv
      exact ⟨x, rfl, ρ, v, S, r, hh, hp⟩
    | [], hp, _ => exact hp.elim
    | _ :: _ :: _, hp, _ => exact hp.elim) h
@[simp] def lenW : W → M W := fun v S => match v with
  | .str z => if z.length ≤ big then .ok (.int z.length) S else .stuck
  | .tup ws => .ok (.int ws.length) S
  | .loc l => match S[l]? with
    | some (.lst ws) => .ok (.int ws.length) S
    | some (.dct kvs) => .ok (.int kvs.length) S
    | _ => .stuck
  | _ => .stuck
theorem c_len (hK : G.K = X.K) : CallR X (.builtin "len") (upC G (b1 lenW)) := by
  refine c_b1 (CallR.imp ?_ (CallR.or call_len_seq (CallR.or call_len_str call_lenD)))
  rintro xs H Q ⟨x, rfl, ρ, v, S, rv, hh, hp⟩
  cases v with
  | str z =>
    simp only [lenW] at hp
    by_cases e : z.length ≤ big
    · rw [if_pos e] at hp
      cases rv
      exact .inr (.inl ⟨z, rfl, le_line e, hp ρ H .refl hh _ rfl⟩)
    · rw [if_neg e] at hp; exact hp.elim
  | tup ws =>
    simp only [lenW] at hp
    obtain ⟨a, xs, rfl, t1, r1⟩ := rv
    exact .inl ⟨a, xs, rfl, .inr (by rw [← hK]; exact t1.sq), hp ρ H .refl hh _ (by rw [r1.len]; rfl)⟩
  | loc l =>
    simp only [lenW] at hp
    cases q1 : S[l]? with
    | none => rw [q1] at hp; exact hp.elim
    | some ob =>
      cases ob with
      | lst ws =>
        rw [q1] at hp
        obtain ⟨a, xs, rfl, _, e1, r1⟩ := rel_lst hh rv q1
        exact .inl ⟨a, xs, rfl, .inl (.of e1), hp ρ H .refl hh _ (by rw [r1.len]; rfl)⟩
      | dct kvs =>
        rw [q1] at hp
        obtain ⟨a, ea, rfl⟩ := rv
        obtain ⟨a', xs, e1, e2, el, rs⟩ := hh.at_ l _ q1
        rw [ea] at e1; cases e1
        exact .inr (.inr ⟨a, _, rfl, e2, hp ρ H .refl hh _ (by simp [el]; rfl)⟩)
      | _ => rw [q1] at hp; exact hp.elim
  | _ => exact hp.elim
@[simp] def absW : W → M W := fun v S => match v with
  | .int i => .ok (.int (if i < 0 then -i else i)) S
  | _ => .stuck
theorem c_abs : CallR X (.builtin "abs") (upC G (b1 absW)) := by
  refine c_b1 (CallR.imp ?_ call_abs)
  rintro xs H Q ⟨x, rfl, ρ, v, S, rv, hh, hp⟩
  cases v with
  | int i => cases rv; exact ⟨i, rfl, hp ρ H .refl hh _ rfl⟩
  | _ => exact hp.elim
@[simp] def intW : W → M W := fun v S => match v with
  | .int i => .ok (.int i) S
  | .bl k => .ok (.int (if k then 1 else 0)) S
  | .str z => match PySem.intText? z with
    | some n => if z.length ≤ 640 then .ok (.int n) S else .stuck
    | none => .stuck
  | _ => .stuck
theorem c_int : CallR X (.type "int") (upC G (b1 intW)) := by
  refine c_b1 (CallR.imp ?_ (CallR.or call_int1 call_int_str))
  rintro xs H Q ⟨x, rfl, ρ, v, S, rv, hh, hp⟩
  cases v with
  | int i => cases rv; exact .inl (.inl ⟨i, rfl, hp ρ H .refl hh _ rfl⟩)
  | bl k => cases rv; exact .inl (.inr ⟨k, rfl, hp ρ H .refl hh _ rfl⟩)
  | str z =>
    cases rv
    simp only [intW] at hp
    cases q : PySem.intText? z with
    | none => rw [q] at hp; exact hp.elim
    | some n =>
      rw [q] at hp
      simp only at hp
      by_cases e : z.length ≤ 640
      · rw [if_pos e] at hp
        exact .inr ⟨z, n, rfl, q, e, hp ρ H .refl hh _ rfl⟩
      · rw [if_neg e] at hp; exact hp.elim
  | _ => exact hp.elim
@[simp] def minmax (mx : Bool) : BM := fun vs S => match vs with
  | [.int i, .int j] => .ok (.int (if mx then (if j > i then j else i) else (if j < i then j else i))) S
  | _ => .stuck
theorem c_max (hc : X.calm = true) : CallR X (.builtin "max") (upC G (minmax true)) := CallR.imp (fun xs H Q ⟨ρ, vs, S, rv, hh, hp⟩ => by
  match vs, hp, rv with
  | [.int i, .int j], hp, rv =>
    obtain ⟨x, y, rfl, r1, r2⟩ := rel2 rv
    cases r1; cases r2
    exact ⟨i, j, rfl, hp ρ H .refl hh _ rfl⟩) (call_max2 hc)
theorem c_min (hc : X.calm = true) : CallR X (.builtin "min") (upC G (minmax false)) := CallR.imp (fun xs H Q ⟨ρ, vs, S, rv, hh, hp⟩ => by
  match vs, hp, rv with
  | [.int i, .int j], hp, rv =>
    obtain ⟨x, y, rfl, r1, r2⟩ := rel2 rv
    cases r1; cases r2
    exact ⟨i, j, rfl, hp ρ H .refl hh _ rfl⟩) (call_min2 hc)
/-- list(xs), tuple(xs) -/
@[simp] def listW : W → M W := fun v S => match v with
  | .tup ws => if ws.length ≤ big then .ok (.loc S.length) (S ++ [.lst ws]) else .stuck
  | .loc l => match S[l]? with
    | some (.lst ws) => if ws.length ≤ big then .ok (.loc S.length) (S ++ [.lst ws]) else .stuck
    | _ => .stuck
  | _ => .stuck
theorem c_list (hK : G.K = X.K) : CallR X (.type "list") (upC G (b1 listW)) := by
  refine c_b1 (CallR.imp ?_ call_list_of)
  rintro xs H Q ⟨x, rfl, ρ, v, S, rv, hh, hp⟩
  cases v with
  | tup ws =>
    obtain ⟨a, xs, rfl, t1, r1⟩ := rv
    exact ⟨a, xs, rfl, .inr (by rw [← hK]; exact t1.sq), (newL_post (E := NoE) hh r1 (by unfold newL; exact hp)).2⟩
  | loc l =>
    simp only [listW] at hp
    cases q1 : S[l]? with
    | none => rw [q1] at hp; exact hp.elim
    | some ob =>
      cases ob with
      | lst ws =>
        rw [q1] at hp
        obtain ⟨a, xs, rfl, _, e1, r1⟩ := rel_lst hh rv q1
        exact ⟨a, xs, rfl, .inl (.of e1), (newL_post (E := NoE) hh r1 (by unfold newL; exact hp)).2⟩
      | _ => rw [q1] at hp; exact hp.elim
  | _ => exact hp.elim
@[simp] def tupleW : W → M W := fun v S => match v with
  | .tup ws => .ok (.tup ws) S
  | .loc l => match S[l]? with
    | some (.lst ws) => .ok (.tup ws) S
    | _ => .stuck
  | _ => .stuck
theorem c_tuple (hK : G.K = X.K) : CallR X (.type "tuple") (upC G (b1 tupleW)) := by
  refine c_b1 (CallR.imp ?_ call_tuple_of)
  rintro xs H Q ⟨x, rfl, ρ, v, S, rv, hh, hp⟩
  cases v with
  | tup ws =>
    obtain ⟨a, xs, rfl, t1, r1⟩ := rv
    exact ⟨a, xs, rfl, .inr ⟨by rw [← hK]; exact t1.sq, hp ρ H .refl hh _ ⟨a, xs, rfl, t1, r1⟩⟩⟩
  | loc l =>
    simp only [tupleW] at hp
    cases q1 : S[l]? with
    | none => rw [q1] at hp; exact hp.elim
    | some ob =>
      cases ob with
      | lst ws =>
        rw [q1] at hp
        obtain ⟨a, xs, rfl, _, e1, r1⟩ := rel_lst hh rv q1
        exact ⟨a, xs, rfl, .inl ⟨.of e1, fun p np => hp ρ _ (Step.lay np) (hh.lay np) _ (tup_new hh np r1)⟩⟩
      | _ => rw [q1] at hp; exact hp.elim
  | _ => exact hp.elim
/-- all, any of a list of truth values; sum of a list of ints -/
@[simp] def asBls : List W → Option (List Bool)
  | [] => some []
  | .bl k :: r => (asBls r).map fun l => k :: l
  | _ :: _ => none
@[simp] def asInts : List W → Option (List Int)
  | [] => some []
  | .int k :: r => (asInts r).map fun l => k :: l
  | _ :: _ => none
theorem asBls_rel {ρ H} : ∀ {ws : List W} {xs : List V} {bs : List Bool}, RelWs G ρ H ws xs → asBls ws = some bs → xs = bs.map V.bl
  | [], _, _, h, e => by cases e; exact h
  | .bl k :: r, _, bs, ⟨y, ys, e1, h, hr⟩, e => by
    unfold asBls at e
    cases q : asBls r with
    | none => rw [q] at e; cases e
    | some l =>
      rw [q] at e; cases e
      subst e1
      cases h
      rw [asBls_rel hr q]; rfl
  | .non :: _, _, _, _, e => by cases e
  | .int _ :: _, _, _, _, e => by cases e
  | .str _ :: _, _, _, _, e => by cases e
  | .tup _ :: _, _, _, _, e => by cases e
  | .ins _ _ :: _, _, _, _, e => by cases e
  | .exc _ _ :: _, _, _, _, e => by cases e
  | .loc _ :: _, _, _, _, e => by cases e
  | .glo _ :: _, _, _, _, e => by cases e
  | .ty _ :: _, _, _, _, e => by cases e
theorem asInts_rel {ρ H} : ∀ {ws : List W} {xs : List V} {bs : List Int}, RelWs G ρ H ws xs → asInts ws = some bs → xs = bs.map V.int
  | [], _, _, h, e => by cases e; exact h
  | .int k :: r, _, bs, ⟨y, ys, e1, h, hr⟩, e => by
    unfold asInts at e
    cases q : asInts r with
    | none => rw [q] at e; cases e
    | some l =>
      rw [q] at e; cases e
      subst e1
      cases h
      rw [asInts_rel hr q]; rfl
  | .non :: _, _, _, _, e => by cases e
  | .bl _ :: _, _, _, _, e => by cases e
  | .str _ :: _, _, _, _, e => by cases e
  | .tup _ :: _, _, _, _, e => by cases e
  | .ins _ _ :: _, _, _, _, e => by cases e
  | .exc _ _ :: _, _, _, _, e => by cases e
  | .loc _ :: _, _, _, _, e => by cases e
  | .glo _ :: _, _, _, _, e => by cases e
  | .ty _ :: _, _, _, _, e => by cases e
@[simp] def lstOf (l : Nat) (S : Sto) : Option (List W) := match S[l]? with
  | some (.lst ws) => some ws
  | _ => none
theorem lstOf_eq {l S ws} (h : lstOf l S = some ws) : S[l]? = some (.lst ws) := by
  unfold lstOf at h
  cases q : S[l]? with
  | none => rw [q] at h; cases h
  | some ob => rw [q] at h; cases ob <;> cases h; rfl
@[simp] def allW (anyq : Bool) : W → M W := fun v S => match v with
  | .loc l => match (lstOf l S).bind asBls with
    | some bs => .ok (.bl (if anyq then bs.any id else bs.all id)) S
    | none => .stuck
  | _ => .stuck
theorem bind_some {α β : Type} {o : Option α} {f : α → Option β} {z : β} (h : o.bind f = some z) : ∃ y, o = some y ∧ f y = some z := by
  cases o with
  | none => cases h
  | some y => exact ⟨y, rfl, h⟩
theorem c_all (hK : G.K = X.K) (hc : X.calm = true) : CallR X (.builtin "all") (upC G (b1 (allW false))) := by
  refine c_b1 (CallR.imp ?_ (cr_all hc))
  rintro xs H Q ⟨x, rfl, ρ, v, S, rv, hh, hp⟩
  cases v with
  | loc l =>
    simp only [allW] at hp
    cases q1 : (lstOf l S).bind asBls with
    | none => rw [q1] at hp; exact hp.elim
    | some bs =>
      rw [q1] at hp
      obtain ⟨ws, h1, h2⟩ := bind_some q1
      obtain ⟨a, xs, rfl, _, e1, r1⟩ := rel_lst hh rv (lstOf_eq h1)
      have e := asBls_rel r1 h2
      subst e
      exact ⟨a, bs, rfl, .of e1, hp ρ H .refl hh _ rfl⟩
  | _ => exact hp.elim
theorem c_any (hK : G.K = X.K) (hc : X.calm = true) : CallR X (.builtin "any") (upC G (b1 (allW true))) := by
  refine c_b1 (CallR.imp ?_ (cr_any hc))
  rintro xs H Q ⟨x, rfl, ρ, v, S, rv, hh, hp⟩
  cases v with
  | loc l =>
    simp only [allW] at hp
    cases q1 : (lstOf l S).bind asBls with
    | none => rw [q1] at hp; exact hp.elim
    | some bs =>
      rw [q1] at hp
      obtain ⟨ws, h1, h2⟩ := bind_some q1
      obtain ⟨a, xs, rfl, _, e1, r1⟩ := rel_lst hh rv (lstOf_eq h1)
      have e := asBls_rel r1 h2
      subst e
      exact ⟨a, bs, rfl, .of e1, hp ρ H .refl hh _ rfl⟩
  | _ => exact hp.elim
@[simp] def sumW : W → M W := fun v S => match v with
  | .loc l => match (lstOf l S).bind asInts with
    | some bs => .ok (.int bs.sum) S
    | none => .stuck
  | _ => .stuck
theorem c_sum (hK : G.K = X.K) (hc : X.calm = true) : CallR X (.builtin "sum") (upC G (b1 sumW)) := by
  refine c_b1 (CallR.imp ?_ (cr_sum hc))
  rintro xs H Q ⟨x, rfl, ρ, v, S, rv, hh, hp⟩
  cases v with
  | loc l =>
    simp only [sumW] at hp
    cases q1 : (lstOf l S).bind asInts with
    | none => rw [q1] at hp; exact hp.elim
    | some bs =>
      rw [q1] at hp
      obtain ⟨ws, h1, h2⟩ := bind_some q1
      obtain ⟨a, xs, rfl, _, e1, r1⟩ := rel_lst hh rv (lstOf_eq h1)
      have e := asInts_rel r1 h2
      subst e
      exact ⟨a, bs, rfl, .of e1, hp ρ H .refl hh _ rfl⟩
  | _ => exact hp.elim
/-! ### methods of built-in values -/
theorem MtR.imp {id : String} {r r' : V → List V → Hp → VK → Prop} (h : ∀ x xs H Q, r' x xs H Q → r x xs H Q) (p : MtR X id r) : MtR X id r' := fun pins s σ H x xs v us Q I rx rs q => p pins s σ H x xs v us Q I rx rs (h x xs H Q q)
def upM (G : Gi) (op : W → BM) : V → List V → Hp → VK → Prop := fun x xs H Q => ∃ ρ v vs S, RelW G ρ H v x ∧ RelWs G ρ H vs xs ∧ RelH G ρ H S ∧ Post G ρ H (op v vs S) (QW G Q) NoE
@[simp] def isL : W → Sto → Bool := fun v S => match v with
  | .loc l => (lstOf l S).isSome
  | _ => false
@[simp] def isS : W → Sto → Bool := fun v _ => match v with
  | .str _ => true
  | _ => false
@[simp] def eBM (chk : W → Sto → Bool) (op : W → BM) (f : EM) (g : AM) : EM := fun ls S => (f ls S).bind fun v S1 => if chk v S1 = true then (g ls S1).bind fun vs S2 => NoX (op v vs S2) else .stuck
theorem tyL {ρ H v S x} {K : PySem.W.Frag} (hh : RelH G ρ H S) (r : RelW G ρ H v x) (h : isL v S = true) : tyV K "list" x H := by
  cases v with
  | loc l =>
    simp only [isL] at h
    obtain ⟨ws, hw⟩ := Option.isSome_iff_exists.mp h
    obtain ⟨a, xs, rfl, _, e1, r1⟩ := rel_lst hh r (lstOf_eq hw)
    exact .inl ⟨rfl, xs, .of e1⟩
  | _ => cases h
theorem tyS {ρ H v S x} {K : PySem.W.Frag} (r : RelW G ρ H v x) (h : isS v S = true) : tyV K "str" x H := by
  cases v with
  | str z => cases r; rfl
  | _ => cases h
theorem tBM_of {T : String} {chk : W → Sto → Bool} {op : W → BM} (hc : ∀ ρ H v S x, RelH G ρ H S → RelW G ρ H v x → chk v S = true → tyV X.K T x H) : ∀ σ H Q, upE G Wx (eBM chk op fa fs) σ H Q → tBM X.K T (upM G op) (upE G Wx fa) (upA G Wx fs) σ H Q := fun σ H Q ⟨ρ, ls, S, hs, hh, hp⟩ =>
  ⟨ρ, ls, S, hs, hh, (Post.bind hp).mono fun v S1 ρ1 H1 s1 h1 q x rx => by
    by_cases e : chk v S1 = true
    · rw [if_pos e] at q
      exact ⟨hc ρ1 H1 v S1 x h1 rx e, ρ1, ls, S1, hs.step s1, h1, (Post.bind q).mono fun vs S2 ρ2 H2 s2 h2 q2 xs rs => ⟨ρ2, v, vs, S2, rx.step s2, rs, h2, NoX_post q2⟩⟩
    · rw [if_neg e] at q; exact q.elim⟩
theorem e_bmL {call : Expr} {op : W → BM} (h : PE X call (tBM X.K "list" (upM G op) (upE G Wx fa) (upA G Wx fs))) : PE X call (upE G Wx (eBM isL op fa fs)) := PE.imp (tBM_of fun _ _ _ _ _ hh r c => tyL hh r c) h
theorem e_bmS {call : Expr} {op : W → BM} (h : PE X call (tBM X.K "str" (upM G op) (upE G Wx fa) (upA G Wx fs))) : PE X call (upE G Wx (eBM isS op fa fs)) := PE.imp (tBM_of fun _ _ _ _ _ hh r c => tyS r c) h
@[simp] def appL (l : Nat) (w : W) : M W := fun S => match lstOf l S with
  | some ws => if ws.length < big then .ok .non (S.set l (.lst (ws ++ [w]))) else .stuck
  | none => .stuck
@[simp] def appM : W → BM := fun v vs => match v with
  | .loc l => match vs with
    | [w] => appL l w
    | _ => fun _ => .stuck
  | _ => fun _ => .stuck
theorem m_append : MtR X "list.append" (upM G appM) := by
  refine MtR.imp ?_ (mt_append (X := X))
  rintro x xs H Q ⟨ρ, v, vs, S, rv, rs, hh, hp⟩
  cases v with
  | loc l =>
    cases vs with
    | nil => exact hp.elim
    | cons w r =>
      cases r with
      | cons _ _ => exact hp.elim
      | nil =>
        have hp : Post G ρ H (appL l w S) (QW G Q) NoE := hp
        unfold appL at hp
        cases q : lstOf l S with
        | none => rw [q] at hp; exact hp.elim
        | some ws =>
          rw [q] at hp
          have hp : Post G ρ H (if ws.length < big then Res.ok W.non (S.set l (.lst (ws ++ [w]))) else .stuck) (QW G Q) NoE := hp
          by_cases e : ws.length < big
          · rw [if_pos e] at hp
            obtain ⟨a, ys, rfl, ea, e1, r1⟩ := rel_lst hh rv (lstOf_eq q)
            obtain ⟨y, rfl, ry⟩ := rel1 rs
            exact ⟨a, ys, y, rfl, rfl, e1, by rw [← r1.len]; exact Nat.lt_of_lt_of_le e big_le, hp ρ _ (Step.put ea (hh.warm (lstOf_eq q) (by simp)) ⟨_, e1, rfl⟩) (lst_put hh ea (hh.warm (lstOf_eq q) (by simp)) ⟨_, e1, rfl⟩ (r1.append ⟨y, [], rfl, ry, rfl⟩)) _ rfl⟩
          · rw [if_neg e] at hp; exact hp.elim
  | _ => exact hp.elim
@[simp] def extL (l k : Nat) : M W := fun S => match lstOf l S with
  | some ws => match lstOf k S with
    | some us => if (ws ++ us).length ≤ big then .ok .non (S.set l (.lst (ws ++ us))) else .stuck
    | none => .stuck
  | none => .stuck
@[simp] def extM : W → BM := fun v vs => match v with
  | .loc l => match vs with
    | [.loc k] => extL l k
    | _ => fun _ => .stuck
  | _ => fun _ => .stuck
theorem m_extend : MtR X "list.extend" (upM G extM) := by
  refine MtR.imp ?_ (mt_extend (X := X))
  rintro x xs H Q ⟨ρ, v, vs, S, rv, rs, hh, hp⟩
  cases v with
  | loc l =>
    cases vs with
    | nil => exact hp.elim
    | cons w r =>
      cases r with
      | cons _ _ => cases w <;> exact hp.elim
      | nil =>
        cases w with
        | loc k =>
          have hp : Post G ρ H (extL l k S) (QW G Q) NoE := hp
          unfold extL at hp
          cases q : lstOf l S with
          | none => rw [q] at hp; exact hp.elim
          | some ws =>
            cases q2 : lstOf k S with
            | none => rw [q, q2] at hp; exact hp.elim
            | some us =>
              rw [q, q2] at hp
              have hp : Post G ρ H (if (ws ++ us).length ≤ big then Res.ok W.non (S.set l (.lst (ws ++ us))) else .stuck) (QW G Q) NoE := hp
              by_cases e : (ws ++ us).length ≤ big
              · rw [if_pos e] at hp
                obtain ⟨a, ys, rfl, ea, e1, r1⟩ := rel_lst hh rv (lstOf_eq q)
                obtain ⟨y, rfl, ry⟩ := rel1 rs
                obtain ⟨b, zs, rfl, eb, e2, r2⟩ := rel_lst hh ry (lstOf_eq q2)
                exact ⟨a, b, ys, zs, rfl, rfl, e1, e2, by rw [← r1.len, ← r2.len, ← List.length_append]; exact le_line e, hp ρ _ (Step.put ea (hh.warm (lstOf_eq q) (by simp)) ⟨_, e1, rfl⟩) (lst_put hh ea (hh.warm (lstOf_eq q) (by simp)) ⟨_, e1, rfl⟩ (r1.append r2)) _ rfl⟩
              · rw [if_neg e] at hp; exact hp.elim
        | _ => exact hp.elim
  | _ => exact hp.elim
end
end Mp
set_option Elab.async false
set_option linter.all false
set_option maxRecDepth 100000
set_option maxHeartbeats 4000000
namespace Mp
open PySem PySem.Spec PyProof.Rows L2
/-! ### room, and no repr under way -/
structure Rm (k : Nat) (A : Around) : Prop where
  rm : Room k A
  gd : A.guards = some []
section
variable {j k : Nat} {A : Around}
theorem Rm.mono (r : Rm k A) (h : j ≤ k) : Rm j A := ⟨r.rm.mono h, r.gd⟩
theorem Rm.deeper (r : Rm (k + 1) A) (env : Env) : Rm k (A.deeper env) := ⟨r.rm.deeper env, r.gd⟩
theorem Rm.in1 (r : Rm (k + 1) A) : Rm k A.in1 := ⟨r.rm.in1, r.gd⟩
theorem Rm.make (r : Rm (k + 1) A) (C : Addr) (us : List Value) (kw : List (Str × Value)) : Rm k (A.under (.builtin "type.__call__" ⟨.ref C :: us, kw⟩)) :=
  ⟨r.rm.make C us kw, by
    have h := r.gd
    first
      | exact h
      | (simp [Around.under, Code.guards, Code.isGuard, guardIds, pushGuards, h])⟩
theorem Rm.units (r : Rm k A) : A.units + 64 < cLine := r.rm.units
theorem Rm.units0 (r : Rm k A) : A.units < cLine := r.rm.units0
theorem Rm.un (r : Rm k A) : A.units + 16 * k + 200 < cLine := r.rm.un
end
/-- a def, called; its raw values -/
structure FnO (P : Program) (w : World) (K : PySem.W.Frag) (mg : Str → Option Value) (base : Heap) (CX : CXT) (k : Nat) (f : Addr) (fd : FuncData) (ps : List Str) (sp : Sp) : Prop where
  len : ∀ vs H Q E, sp vs H Q E → vs.length = ps.length
  run : ∀ (A : Around) (outer : List Env) (s : Shared) (H : Hp) (args : Args) (us : List Value) (vs : List V) (Q : VK) (E : XK), Rm k A → Env0 P w K mg base A outer s H → BindsTo s fd args (ps.zip us) → Vals vs us → sp vs H Q E → codeAny (model P w) A (.call (.ref f) args) (CR CX outer P w H s Q E) s
def FnG (P : Program) (w : World) (K : PySem.W.Frag) (mg : Str → Option Value) (base : Heap) (CX : CXT) (k : Nat) (f : Addr) (sp : Sp) : Prop :=
  ∀ (A : Around) (outer : List Env) (s : Shared) (H : Hp) (us : List Value) (vs : List V) (Q : VK) (E : XK), Rm k A → Env0 P w K mg base A outer s H → Vals vs us → sp vs H Q E → codeAny (model P w) A (.call (.ref f) ⟨us, []⟩) (CR CX outer P w H s Q E) s
/-! ### defs -/
/-- called with n values: f's result -/
def spN (G : Gi) (n : Nat) (f : BM) : Sp := fun vs H Q E => ∃ ρ ws S, RelWs G ρ H ws vs ∧ RelH G ρ H S ∧ ws.length = n ∧ Post G ρ H (f ws S) (QW G Q) E
/-- called with any positional values -/
def spR (G : Gi) (f : BM) : Sp := fun vs H Q E => ∃ ρ ws S, RelWs G ρ H ws vs ∧ RelH G ρ H S ∧ Post G ρ H (f ws S) (QW G Q) E
@[simp] def runB (r : SRes) : Res W := match r with
  | .nx _ S' => .ok .non S'
  | .rt v S' => .ok v S'
  | .exc c fs _ S' => .exc c fs S'
  | _ => .stuck
/-- a body with m other names beside the parameters -/
@[simp] def fnM (m : Nat) (b : SM) : BM := fun ws S => runB (b (ws.map some ++ List.replicate m none) S)
abbrev WxE (E : XK) : WX := fun cls d _ H => E cls d H
theorem takes_cx {P : Program} {w : World} {K : PySem.W.Frag} {mg : Str → Option Value} {base : Heap} {N : List Str} {qual : Str} {scope : Scope} {f : Addr} {cdv : Value} {A : Around} {outer : List Env} {s : Shared} {H : Hp} {E : XK} :
    Takes (cxOf (CX P w) P w K mg base N qual scope f cdv A outer s H E) (WxE E) := takes_of rfl rfl rfl rfl
theorem passes_cx {P : Program} {w : World} {K : PySem.W.Frag} {mg : Str → Option Value} {base : Heap} {N : List Str} {qual : Str} {scope : Scope} {f : Addr} {cdv : Value} {A : Around} {outer : List Env} {s : Shared} {H : Hp} {E : XK} :
    PassesOwn (model P w) (cxOf (CX P w) P w K mg base N qual scope f cdv A outer s H E).A (cxOf (CX P w) P w K mg base N qual scope f cdv A outer s H E).env (cxOf (CX P w) P w K mg base N qual scope f cdv A outer s H E).xe := passes_of (X := cxOf (CX P w) P w K mg base N qual scope f cdv A outer s H E) rfl
section
variable {P : Program} {w : World} {K : PySem.W.Frag} {mg : Str → Option Value} {base : Heap} {G : Gi} {k : Nat} {f : Addr} {fd : FuncData} {ps : List Str}
theorem relS_start {ρ H} {ws : List W} {vs : List V} {N : List Str} (r : RelWs G ρ H ws vs) (m : Nat) (hN : N.length = vs.length + m) : RelS G ρ H (ws.map some ++ List.replicate m none) (L2.start N vs) := by
  have hm : N.length - vs.length = m := by omega
  refine ⟨by unfold L2.start; simp [r.len, hm], fun i w' e => ?_⟩
  by_cases hi : i < ws.length
  · rw [List.getElem?_append_left (by simpa using hi), List.getElem?_map] at e
    cases q : ws[i]? with
    | none => rw [q] at e; cases e
    | some u =>
      rw [q] at e
      cases e
      obtain ⟨x, hx, rx⟩ := r.get q
      refine ⟨x, ?_, rx⟩
      unfold L2.start
      rw [List.getElem?_append_left (by rw [List.length_map, ← r.len]; exact hi), List.getElem?_map, hx]; rfl
  · rw [List.getElem?_append_right (by simpa using Nat.le_of_not_lt hi), List.getElem?_replicate] at e
    split at e <;> cases e
theorem PostS.run {ρ H Q E} {r : SRes} (h : Post G ρ H (runB r) (QW G Q) E) : PostS G ρ H (WxE E) { nx := fun _ H' => Q .non H', rt := Q } r := by
  cases r with
  | nx ls S => exact fun ρ' H' σ' t k _ => h ρ' H' t k .non rfl
  | rt v S => exact fun ρ' H' x t k rx => h ρ' H' t k x rx
  | exc c fs ls S => exact fun ρ' H' σ' d t k _ => h ρ' H' d t k
  | bk ls S => exact h.elim
  | ct ls S => exact h.elim
  | stuck => exact h.elim
/-- a def, by its body -/
theorem fn_up {x qual : Str} {params : Arguments} {body : List Stmt} {scope : Scope} {dvs : List V} {kws : List (Str × V)} {N : List Str} {m : Nat} {b : SM} (F : FunD K x qual params body scope dvs kws f fd) (S : FnScope N ps scope) (hN : N.length = ps.length + m)
    (hb : ∀ (cdv : Value) (A : Around) (outer : List Env) (s : Shared) (H : Hp) (E : XK), Rm k (A.deeper (envOfC qual scope s.heap.objs.size f cdv)) →
      PSs (cxOf (CX P w) P w K mg base N qual scope f cdv A outer s H E) body (upS G (WxE E) b)) :
    FnO P w K mg base (CX P w) (k + 1) f fd ps (spN G ps.length (fnM m b)) := by
  obtain ⟨oc, od, dV, kV, doc, pm, an, cdv, ct, osl, rfl, lk, hcd, _, _⟩ := F.ex
  have hlen : ∀ vs H Q E, spN G ps.length (fnM m b) vs H Q E → vs.length = ps.length := fun vs H Q E h => by
    obtain ⟨ρ, ws, S', r, _, hl, _⟩ := h
    rw [← r.len]; exact hl
  refine ⟨hlen, fun A outer s H args us vs Q E hr e0 hbd r h => LamX.run_ofS lk hcd S hr.rm e0 hbd r (hlen _ _ _ _ h) fun hr' => ⟨_, hb cdv A outer s H E ⟨hr', hr.gd⟩, ?_⟩⟩
  obtain ⟨ρ, ws, S', r, hh, hl, hp⟩ := h
  exact ⟨ρ, _, S', relS_start r m (by rw [hN, ← hl, r.len]), hh, PostS.run hp⟩
/-- called with fewer values: defaults -/
@[simp] def defM (n : Nat) (ds : List W) (f : BM) : BM := fun ws S => if ws.length + ds.length = n then f (ws ++ ds) S else .stuck
theorem fn_raw {n : Nat} {g : BM} {ds : List Value} {dvs : List V} {dws : List W} (F : FnO P w K mg base (CX P w) k f fd ps (spN G n g)) (hb : Binds K fd ps ds) (hd : Vals dvs ds) (rd : ∀ ρ H, RelWs G ρ H dws dvs) :
    FnG P w K mg base (CX P w) k f (spR G (defM n dws g)) := fun A outer s H us vs Q E hr e0 rv ⟨ρ, ws, S, r, hh, hp⟩ => by
  have hp : Post G ρ H (if ws.length + dws.length = n then g (ws ++ dws) S else .stuck) (QW G Q) E := hp
  by_cases e : ws.length + dws.length = n
  · rw [if_pos e] at hp
    have h : spN G n g (vs ++ dvs) H Q E := ⟨ρ, ws ++ dws, S, r.append (rd ρ H), hh, by rw [List.length_append]; exact e, hp⟩
    have hl : (us ++ ds).length = ps.length := by
      rw [← (rv.append hd).length]; exact F.len _ _ _ _ h
    exact F.run A outer s H ⟨us, []⟩ (us ++ ds) _ Q E hr e0 (hb s us (e0.mod.kin.keeps fun b o q => (e0.bs b o q).1) hl) (rv.append hd) h
  · rw [if_neg e] at hp; exact hp.elim
@[simp] def orM (f g : BM) : BM := fun ws S => match f ws S with
  | .stuck => g ws S
  | r => r
theorem fnR_or {f1 f2 : BM} (p : FnG P w K mg base (CX P w) k f (spR G f1)) (q : FnG P w K mg base (CX P w) k f (spR G f2)) : FnG P w K mg base (CX P w) k f (spR G (orM f1 f2)) := fun A outer s H us vs Q E hr e0 r ⟨ρ, ws, S, rs, hh, hp⟩ => by
  have hp : Post G ρ H (match f1 ws S with | .stuck => f2 ws S | r => r) (QW G Q) E := hp
  cases e : f1 ws S with
  | stuck => rw [e] at hp; exact q A outer s H us vs Q E hr e0 r ⟨ρ, ws, S, rs, hh, hp⟩
  | ok v S1 => rw [e] at hp; exact p A outer s H us vs Q E hr e0 r ⟨ρ, ws, S, rs, hh, by rw [e]; exact hp⟩
  | exc c fs S1 => rw [e] at hp; exact p A outer s H us vs Q E hr e0 r ⟨ρ, ws, S, rs, hh, by rw [e]; exact hp⟩
end
/-! ### calls of defs -/
section
variable {X : Cx} {G : Gi} {Wx : WX} {a b c e o : Expr} {fa fb fc : EM} {pos pos' p p2 apos : Pos} {es : List Expr} {fs : AM} {x m : Str} {k : Nat} {f C : Addr} {g : BM}
@[simp] def eFn (f : BM) (g : AM) : EM := fun ls S => (g ls S).bind fun vs S1 => f vs S1
theorem run_R {pins : List (Addr × Obj)} {σ : L2.St} {H : Hp} {s : Shared} {us : List Value} {vs : List V} {Q : VK} (tk : Takes X Wx) (F : FnG X.prog X.w X.K X.mg X.base (CX X.prog X.w) k f (spR G g)) (hr : Rm k X.A) (I : Inv X pins σ H s) (r : Vals vs us)
    (h : spR G g vs H Q fun c d H' => Wx c d σ H') : codeAny (model X.prog X.w) X.A (.call (.ref f) ⟨us, []⟩) (fun r s' => match r with | .ok (.ret v) => EP X pins σ Q v s' | .ok _ => False | .error e => X.xe e s') s := by
  refine codeAny_mono (F X.A X.stack s H us vs Q _ hr I.env0 r h) fun r s' hq => ?_
  cases r with
  | error e => exact passAt tk σ pins H s e s' I hq
  | ok fl =>
    cases fl with
    | ret u => exact I.after hq
    | next => exact False.elim hq
    | brk => exact False.elim hq
    | cont => exact False.elim hq
/-- f(..), f a def of the module -/
theorem e_call (tk : Takes X Wx) (F : FnG X.prog X.w X.K X.mg X.base (CX X.prog X.w) k f (spR G g)) (hr : Rm k X.A) (hg : Gl X x) (hm : X.mg x = some (.ref f)) (hk : PySem.W.keepIn X.K (.ref f) = true) (ha : PA X (e :: es) (upA G Wx fs)) (hdb : (x == ("__debug__" : Str)) = false := by decide)
    (he : starEach (e :: es) X.env = (false, eval e X.env) :: starEach es X.env := by rfl) (hpl : (backTo pos (starEach es X.env)).any (·.1) = false := by rfl) : PE X (.Call (.Name x p) (e :: es) [] pos) (upE G Wx (eFn g fs)) := by
  refine ⟨fun pins s σ H Q I ⟨ρ, ls, S, hs, hh, hp⟩ => ?_⟩
  refine wpAny_Call_Name_kw (ld_glob I hg hm ?_ hdb)
  refine PySem.W.callWith_K (h₀ := X.base) I.ok.mod.kin hk (thn (ha.run pos pins s σ H (fun vs H1 => spR G g vs H1 Q fun c d H' => Wx c d σ H') I ⟨ρ, ls, S, hs, hh, (Post.bind hp).mono fun ws S1 ρ1 H1 s1 h1 q xs rs => ⟨ρ1, ws, S1, rs, h1, q⟩⟩) fun us s1 ⟨vs, H1, I1, r, q⟩ => ⟨I1.kIn, ?_⟩) he hpl
  exact wpAny_call (run_R tk F hr I1 r q)
theorem e_call0 (tk : Takes X Wx) (F : FnG X.prog X.w X.K X.mg X.base (CX X.prog X.w) k f (spR G g)) (hr : Rm k X.A) (hg : Gl X x) (hm : X.mg x = some (.ref f)) (hk : PySem.W.keepIn X.K (.ref f) = true) (hdb : (x == ("__debug__" : Str)) = false := by decide) :
    PE X (.Call (.Name x p) [] [] pos) (upE G Wx (eFn g aNil)) := by
  refine ⟨fun pins s σ H Q I ⟨ρ, ls, S, hs, hh, hp⟩ => ?_⟩
  refine wpAny_Call_Name_kw (ld_glob I hg hm ?_ hdb)
  exact PySem.W.callWith_K0 I.kIn hk (wpAny_call (run_R tk F hr I .nil ⟨ρ, [], S, rfl, hh, hp⟩))
end
end Mp
set_option Elab.async false
set_option linter.all false
set_option maxRecDepth 100000
set_option maxHeartbeats 4000000
namespace Mp
open PySem PySem.Spec PyProof.Rows L2
/-! ### plain data -/
def optAll {α β : Type} (f : α → Option β) : List α → Option (List β)
  | [] => some []
  | x :: xs => match f x with
    | some y => match optAll f xs with
      | some ys => some (y :: ys)
      | none => none
    | none => none
def dat (S : Sto) : Nat → W → Option PyData
  | _, .non => some .none
  | _, .bl b => some (.bool b)
  | _, .int i => some (.int i)
  | _, .str z => some (.str z)
  | n + 1, .tup ws => (optAll (dat S n) ws).map .tuple
  | n + 1, .loc l => match S[l]? with
    | some (.lst ws) => (optAll (dat S n) ws).map .list
    | _ => none
  | _, _ => none
section
variable {G : Gi} {K : PySem.W.Frag} {ρ : Rho} {H : Hp} {S : Sto}
theorem optAll_dp {n : Nat} (ih : ∀ w x d, RelW G ρ H w x → dat S n w = some d → Dp K H x d ∧ d.plain = true ∧ d.depth ≤ n) : ∀ {ws : List W} {xs : List V} {ds : List PyData}, RelWs G ρ H ws xs → optAll (dat S n) ws = some ds → DpAll K H xs ds ∧ PyData.plainAll ds = true ∧ PyData.depthAll ds ≤ n
  | [], xs, ds, r, e => by
    cases e
    have : xs = [] := r
    subst this
    exact ⟨.nil, rfl, Nat.zero_le _⟩
  | w :: ws, xs, ds, ⟨y, ys, e1, r1, r⟩, e => by
    subst e1
    simp only [optAll] at e
    cases q1 : dat S n w with
    | none => rw [q1] at e; cases e
    | some d =>
      rw [q1] at e
      simp only at e
      cases q2 : optAll (dat S n) ws with
      | none => rw [q2] at e; cases e
      | some ds' =>
        rw [q2] at e
        cases e
        obtain ⟨a1, a2, a3⟩ := ih w y d r1 q1
        obtain ⟨b1, b2, b3⟩ := optAll_dp ih r q2
        exact ⟨.cons a1 b1, by simp [PyData.plainAll, a2, b2], by simp only [PyData.depthAll]; omega⟩
theorem dat_dp (hK : G.K = K) (hh : RelH G ρ H S) : ∀ (n : Nat) (w : W) (x : V) (d : PyData), RelW G ρ H w x → dat S n w = some d → Dp K H x d ∧ d.plain = true ∧ d.depth ≤ n := by
  intro n
  induction n with
  | zero =>
    intro w x d r e
    cases w with
    | non => cases e; cases r; exact ⟨.non, rfl, Nat.le_refl _⟩
    | bl b => cases e; cases r; exact ⟨.bl b, rfl, Nat.le_refl _⟩
    | int i => cases e; cases r; exact ⟨.int i, rfl, Nat.le_refl _⟩
    | str z => cases e; cases r; exact ⟨.str z, rfl, Nat.le_refl _⟩
    | _ => cases e
  | succ n ih =>
    intro w x d r e
    cases w with
    | non => cases e; cases r; exact ⟨.non, rfl, Nat.zero_le _⟩
    | bl b => cases e; cases r; exact ⟨.bl b, rfl, Nat.zero_le _⟩
    | int i => cases e; cases r; exact ⟨.int i, rfl, Nat.zero_le _⟩
    | str z => cases e; cases r; exact ⟨.str z, rfl, Nat.zero_le _⟩
    | tup ws =>
      simp only [dat] at e
      obtain ⟨ds, e2, rfl⟩ := Option.map_eq_some_iff.mp e
      obtain ⟨a, xs, rfl, t, rs⟩ := r
      obtain ⟨a1, a2, a3⟩ := optAll_dp ih rs e2
      exact ⟨.tup (by rw [← hK]; exact t.sq) a1, a2, by simp only [PyData.depth]; omega⟩
    | loc l =>
      simp only [dat] at e
      cases q : S[l]? with
      | none => rw [q] at e; cases e
      | some ob =>
        cases ob with
        | lst ws =>
          rw [q] at e
          obtain ⟨ds, e2, rfl⟩ := Option.map_eq_some_iff.mp e
          obtain ⟨a, xs, rfl, _, e1, rs⟩ := rel_lst hh r q
          obtain ⟨a1, a2, a3⟩ := optAll_dp ih rs e2
          exact ⟨.lst (.of e1) a1, a2, by simp only [PyData.depth]; omega⟩
        | _ => rw [q] at e; cases e
    | _ => cases e
end
section
variable {X : Cx} {G : Gi}
@[simp] def datE (neg : Bool) : W → W → M W := fun v u S => match dat S 40 v with
  | some d => match dat S 40 u with
    | some e => .ok (.bl (if neg then !PyData.eqv d e else PyData.eqv d e)) S
    | none => .stuck
  | none => .stuck
theorem o_datE (hK : G.K = X.K) (hu : X.A.units + 64 < cLine) : OpR X (compareOp .Eq) (upR G (datE false)) := by
  rintro pins s σ H x y v u Q I rx ry ⟨ρ, a, b, S, ra, rb, hh, hp⟩
  simp only [datE] at hp
  cases q1 : dat S 40 a with
  | none => rw [q1] at hp; exact hp.elim
  | some d =>
    rw [q1] at hp
    simp only at hp
    cases q2 : dat S 40 b with
    | none => rw [q2] at hp; exact hp.elim
    | some e =>
      rw [q2] at hp
      obtain ⟨d1, d2, d3⟩ := dat_dp hK hh 40 a x d ra q1
      obtain ⟨e1, e2, e3⟩ := dat_dp hK hh 40 b y e rb q2
      obtain ⟨as, r1⟩ := Dp.reads I d x v d1 rx
      obtain ⟨bs, r2⟩ := Dp.reads I e y u e1 ry
      exact SeqAt.eq_plain r1 r2 d2 e2 (by omega) ⟨.bl _, H, I, rfl, hp ρ H .refl hh _ rfl⟩
theorem o_datN (hK : G.K = X.K) (hu : X.A.units + 64 < cLine) : OpR X (compareOp .NotEq) (upR G (datE true)) := by
  rintro pins s σ H x y v u Q I rx ry ⟨ρ, a, b, S, ra, rb, hh, hp⟩
  simp only [datE] at hp
  cases q1 : dat S 40 a with
  | none => rw [q1] at hp; exact hp.elim
  | some d =>
    rw [q1] at hp
    simp only at hp
    cases q2 : dat S 40 b with
    | none => rw [q2] at hp; exact hp.elim
    | some e =>
      rw [q2] at hp
      obtain ⟨d1, d2, d3⟩ := dat_dp hK hh 40 a x d ra q1
      obtain ⟨e1, e2, e3⟩ := dat_dp hK hh 40 b y e rb q2
      obtain ⟨as, r1⟩ := Dp.reads I d x v d1 rx
      obtain ⟨bs, r2⟩ := Dp.reads I e y u e1 ry
      exact SeqAt.ne_plain r1 r2 d2 e2 (by omega) ⟨.bl _, H, I, rfl, hp ρ H .refl hh _ rfl⟩
/-- x in c, c a list or a tuple of data -/
@[simp] def seqOf : PyData → Option (List PyData)
  | .list ds => some ds
  | .tuple ds => some ds
  | _ => none
@[simp] def datIn (neg : Bool) : W → W → M W := fun v u S => match dat S 40 v with
  | some d => match (dat S 40 u).bind seqOf with
    | some es => .ok (.bl (if neg then !es.any (fun y => PyData.eqv y d) else es.any fun y => PyData.eqv y d)) S
    | none => .stuck
  | none => .stuck
theorem o_datIn (hK : G.K = X.K) (hu : X.A.units + 64 < cLine) : OpR X (compareOp .In) (upR G (datIn false)) := by
  rintro pins s σ H x y v u Q I rx ry ⟨ρ, a, b, S, ra, rb, hh, hp⟩
  simp only [datIn] at hp
  cases q1 : dat S 40 a with
  | none => rw [q1] at hp; exact hp.elim
  | some d =>
    rw [q1] at hp
    simp only at hp
    cases q2 : dat S 40 b with
    | none => rw [q2] at hp; exact hp.elim
    | some e =>
      rw [q2] at hp
      obtain ⟨d1, d2, d3⟩ := dat_dp hK hh 40 a x d ra q1
      obtain ⟨e1, e2, e3⟩ := dat_dp hK hh 40 b y e rb q2
      obtain ⟨as, r1⟩ := Dp.reads I d x v d1 rx
      obtain ⟨bs, r2⟩ := Dp.reads I e y u e1 ry
      cases e with
      | list es => exact SeqAt.in_list_data r2 r1 e2 d2 (by omega) ⟨.bl _, H, I, rfl, hp ρ H .refl hh _ rfl⟩
      | tuple es => exact SeqAt.in_tuple_data r2 r1 e2 d2 (by omega) ⟨.bl _, H, I, rfl, hp ρ H .refl hh _ rfl⟩
      | _ => exact hp.elim
theorem o_datNin (hK : G.K = X.K) (hu : X.A.units + 64 < cLine) : OpR X (compareOp .NotIn) (upR G (datIn true)) := by
  rintro pins s σ H x y v u Q I rx ry ⟨ρ, a, b, S, ra, rb, hh, hp⟩
  simp only [datIn] at hp
  cases q1 : dat S 40 a with
  | none => rw [q1] at hp; exact hp.elim
  | some d =>
    rw [q1] at hp
    simp only at hp
    cases q2 : dat S 40 b with
    | none => rw [q2] at hp; exact hp.elim
    | some e =>
      rw [q2] at hp
      obtain ⟨d1, d2, d3⟩ := dat_dp hK hh 40 a x d ra q1
      obtain ⟨e1, e2, e3⟩ := dat_dp hK hh 40 b y e rb q2
      obtain ⟨as, r1⟩ := Dp.reads I d x v d1 rx
      obtain ⟨bs, r2⟩ := Dp.reads I e y u e1 ry
      cases e with
      | list es => exact SeqAt.notIn_list_data r2 r1 e2 d2 (by omega) ⟨.bl _, H, I, rfl, hp ρ H .refl hh _ rfl⟩
      | tuple es => exact SeqAt.notIn_tuple_data r2 r1 e2 d2 (by omega) ⟨.bl _, H, I, rfl, hp ρ H .refl hh _ rfl⟩
      | _ => exact hp.elim
/-- first o1, where that says nothing o2 -/
@[simp] def els (o1 o2 : W → W → M W) : W → W → M W := fun v u S => match o1 v u S with
  | .stuck => o2 v u S
  | r => r
theorem o_els {f : Value → Value → Sem Value} {o1 o2 : W → W → M W} (p : OpR X f (upR G o1)) (q : OpR X f (upR G o2)) : OpR X f (upR G (els o1 o2)) := OpR.imp (fun x y H Q ⟨ρ, v, u, S, rv, ru, hh, hp⟩ => by
  simp only [els] at hp
  cases e : o1 v u S with
  | stuck => rw [e] at hp; exact .inr ⟨ρ, v, u, S, rv, ru, hh, hp⟩
  | ok w S1 => rw [e] at hp; exact .inl ⟨ρ, v, u, S, rv, ru, hh, by rw [e]; exact hp⟩
  | exc c fs S1 => rw [e] at hp; exact .inl ⟨ρ, v, u, S, rv, ru, hh, by rw [e]; exact hp⟩) (OpR.or p q)
end
end Mp
set_option Elab.async false
set_option linter.all false
set_option maxRecDepth 100000
set_option maxHeartbeats 4000000
namespace Mp
open PySem PySem.Spec PyProof.Rows L2
section
variable {X : Cx} {G : Gi} {Wx : WX} {a b c e : Expr} {fa fb fc : EM} {pos pos' p p2 : Pos} {es : List Expr} {fs : AM} {ta tb : TM} {x : Str}
/-! ### names of the module -/
theorem e_glo {g : Nat} (hg : Gl X x) (hm : X.mg x = some (.ref (G.glo g))) (hd : (x == ("__debug__" : Str)) = false := by decide) : PE X (.Name x pos) (upE G Wx (cst (.glo g))) := e_c (pe_glob (v := .ref (G.glo g)) hg hm rfl hd) fun _ _ => rfl
theorem e_gloI {i : Int} {u : Value} (hg : Gl X x) (hm : X.mg x = some u) (r : RelV (.int i) u) (hd : (x == ("__debug__" : Str)) = false := by decide) : PE X (.Name x pos) (upE G Wx (cst (.int i))) := e_c (pe_glob hg hm r hd) fun _ _ => rfl
theorem e_gloS {z : Str} {u : Value} (hg : Gl X x) (hm : X.mg x = some u) (r : RelV (.str z) u) (hd : (x == ("__debug__" : Str)) = false := by decide) : PE X (.Name x pos) (upE G Wx (cst (.str z))) := e_c (pe_glob hg hm r hd) fun _ _ => rfl
/-- a tuple that stands in the written part -/
def TopT (K : PySem.W.Frag) (mg : Str → Option Value) (x : Str) (ws : List W) : Prop := ∃ (t : Addr) (xs : List V), mg x = some (.ref t) ∧ WrT K t xs ∧ ∀ (G : Gb) ρ H, RelWs G ρ H ws xs
theorem e_gloT {ws : List W} (hK : G.K = X.K) (hg : Gl X x) (T : TopT X.K X.mg x ws) (hd : (x == ("__debug__" : Str)) = false := by decide) : PE X (.Name x pos) (upE G Wx (cst (.tup ws))) := by
  obtain ⟨t, xs, hm, wr, r⟩ := T
  exact e_c (pe_glob (v := .ref t) hg hm rfl hd) fun ρ H => ⟨t, xs, rfl, .inr (by rw [hK]; exact wr), r G ρ H⟩
theorem e_ty {n : String} (hg : Gl X x) (hm : X.mg x = none) (hv : bootBuiltins x = some (.type n)) (hn : x ≠ "__name__" := by decide) (hd : (x == ("__debug__" : Str)) = false := by decide) : PE X (.Name x pos) (upE G Wx (cst (.ty n))) := e_c (pe_bltn (v := .ty n) hg hm hv rfl hn hd) fun _ _ => rfl
/-! ### isinstance -/
inductive Kd where
  | b (n : String) | c (i : Nat)
@[simp] def kdW : W → Sto → Option Kd
  | .non, _ => some (.b "NoneType")
  | .bl _, _ => some (.b "bool")
  | .int _, _ => some (.b "int")
  | .str _, _ => some (.b "str")
  | .tup _, _ => some (.b "tuple")
  | .ins c _, _ => some (.c c)
  | .loc l, S => match S[l]? with
    | some (.lst _) => some (.b "list")
    | some (.dct _) => some (.b "dict")
    | some (.obj c _) => some (.c c)
    | _ => none
  | _, _ => none
def tyNs : List String := ["NoneType", "bool", "int", "str", "tuple", "list", "dict"]
@[simp] def tyTab (a b : String) : Bool := a == b || (a == "bool" && b == "int")
theorem tyTab_ok : ∀ a ∈ tyNs, ∀ b ∈ tyNs, b ≠ "NoneType" → kitB a b = some (tyTab a b) := by decide +kernel
structure KitT (G : Gb) (n : Nat) (sub : Nat → Nat → Bool) : Prop where
  gl : ∀ c < n, G.glo c = G.cls c
  k1 : ∀ a ∈ tyNs, ∀ c < n, PySem.W.kitOne G.K (.type a) (.ref (G.cls c)) = some false
  k2 : ∀ c < n, ∀ a ∈ tyNs, PySem.W.kitOne G.K (.ref (G.cls c)) (.type a) = some false
  k3 : ∀ c < n, ∀ d < n, PySem.W.kitOne G.K (.ref (G.cls c)) (.ref (G.cls d)) = some (sub c d)
  cl : ∀ c < n, sub (c + 1000) (c + 1000) = false → Cls G.K (G.cls c) ∧ PySem.W.findIn G.K (.ref (G.cls c)) "__class__" = some (some (.builtin "object.__class__")) ∧ PySem.W.mroIn G.K (G.cls c) (.type "object") = some true
  hn : PySem.W.specialIn G.K (.builtin "object.__class__") "__get__" = some (some (.builtin "getset_descriptor.__get__"))
  htk : PySem.W.takesIn G.K (.builtin "object.__class__") = some true
@[simp] def isiK (n : Nat) (sub : Nat → Nat → Bool) : Kd → W → Option Bool
  | .b a, .ty b => if tyNs.contains b && b != "NoneType" then some (tyTab a b) else none
  | .b _, .glo c => if c < n then some false else none
  | .c i, .ty b => if tyNs.contains b && decide (i < n) then some false else none
  | .c i, .glo c => if i < n then (if c < n then some (sub i c) else none) else none
  | _, _ => none
/-- an exception's class, told by the table's far diagonal: no value of the store has it -/
@[simp] def xkK (sub : Nat → Nat → Bool) : Kd → Bool
  | .b _ => false
  | .c i => sub (i + 1000) (i + 1000)
@[simp] def isiW (n : Nat) (sub : Nat → Nat → Bool) : BM := fun vs S => match vs with
  | [v, u] => match kdW v S with
    | some k => if xkK sub k = true then .stuck else match isiK n sub k u with
      | some r => .ok (.bl r) S
      | none => .stuck
    | none => .stuck
  | _ => .stuck
def tyV_ (G : Gb) : Kd → Value
  | .b a => .type a
  | .c i => .ref (G.cls i)
theorem kd_ty {n sub ρ H S v x k u r} (T : KitT G n sub) (rv : RelW G ρ H v x) (hh : RelH G ρ H S) (e : kdW v S = some k) (e2 : isiK n sub k u = some r) (hx : xkK sub k = false) : TyX G.K H x (tyV_ G k) := by
  cases v with
  | non => cases e; cases rv; exact .base .non
  | bl b => cases e; cases rv; exact .base (.bl b)
  | int i => cases e; cases rv; exact .base (.int i)
  | str z => cases e; cases rv; exact .base (.str z)
  | tup ws =>
    cases e
    obtain ⟨a, xs, rfl, t, _⟩ := rv
    rcases t with ⟨_, t | ⟨o, t⟩⟩ | ⟨o, its, m, h1, h2, _⟩
    · exact .base (.tup t)
    · exact .fTuple t
    · exact .kTuple h1 h2
  | ins c fs =>
    cases e
    obtain ⟨a, xs, rfl, ⟨_, _, dx, h⟩, _⟩ := rv
    have hc : c < n := by
      cases u with
      | ty b => simp only [isiK] at e2; split at e2 <;> simp_all
      | glo d => simp only [isiK] at e2; split at e2 <;> simp_all
      | _ => cases e2
    obtain ⟨c1, c2, c3⟩ := T.cl c hc hx
    exact .base (.ins h c1 c2 T.hn T.htk c3)
  | loc l =>
    simp only [kdW] at e
    cases q : S[l]? with
    | none => rw [q] at e; cases e
    | some ob =>
      rw [q] at e
      cases ob with
      | lst ws =>
        cases e
        obtain ⟨a, xs, rfl, _, e1, _⟩ := rel_lst hh rv q
        exact .base (.lst e1)
      | dct kvs =>
        cases e
        obtain ⟨a, ea, rfl⟩ := rv
        obtain ⟨a', xs, e1, e2', _, _⟩ := hh.at_ l _ q
        rw [ea] at e1; cases e1
        exact .base (.dK e2')
      | obj c fs =>
        cases e
        have hc : c < n := by
          cases u with
          | ty b => simp only [isiK] at e2; split at e2 <;> simp_all
          | glo d => simp only [isiK] at e2; split at e2 <;> simp_all
          | _ => cases e2
        obtain ⟨a, ea, rfl⟩ := rv
        obtain ⟨a', xs, dx, e1, e2', _, _⟩ := hh.at_ l _ q
        rw [ea] at e1; cases e1
        obtain ⟨c1, c2, c3⟩ := T.cl c hc hx
        exact .base (.ins e2' c1 c2 T.hn T.htk c3)
      | dead => cases e
  | _ => cases e
theorem kdW_b {v S a} (e : kdW v S = some (.b a)) : a ∈ tyNs := by
  cases v with
  | loc l =>
    simp only [kdW] at e
    cases q : S[l]? with
    | none => rw [q] at e; cases e
    | some ob => rw [q] at e; cases ob <;> cases e <;> decide
  | _ => cases e <;> decide
theorem c_isi {n sub} (hK : G.K = X.K) (T : KitT G n sub) : CallR X (.builtin "isinstance") (upC G (isiW n sub)) := by
  refine CallR.imp ?_ call_isi
  rintro xs H Q ⟨ρ, vs, S, rv, hh, hp⟩
  cases vs with
  | nil => exact hp.elim
  | cons v vs =>
    cases vs with
    | nil => exact hp.elim
    | cons u vs =>
      cases vs with
      | cons _ _ => exact hp.elim
      | nil =>
        obtain ⟨x, y, rfl, r1, r2⟩ := rel2 rv
        simp only [isiW] at hp
        cases q1 : kdW v S with
        | none => rw [q1] at hp; exact hp.elim
        | some k =>
          rw [q1] at hp
          simp only at hp
          cases z0 : xkK sub k with
          | true => rw [z0] at hp; exact hp.elim
          | false =>
          rw [z0, if_neg (by simp)] at hp
          cases q2 : isiK n sub k u with
          | none => rw [q2] at hp; exact hp.elim
          | some r =>
            rw [q2] at hp
            have hQ := hp ρ H .refl hh _ rfl
            have ty := kd_ty T r1 hh q1 q2 z0
            rw [hK] at ty
            cases u with
            | ty b =>
              cases r2
              refine ⟨x, .ty b, _, .type b, r, rfl, .ty b, ty, ?_, hQ⟩
              cases k with
              | b a =>
                simp only [isiK] at q2
                by_cases z : (tyNs.contains b && b != "NoneType") = true
                · rw [if_pos z] at q2
                  cases q2
                  simp only [Bool.and_eq_true, bne_iff_ne, ne_eq, List.contains_iff_mem] at z
                  exact kit_ty (tyTab_ok a (kdW_b q1) b z.1 z.2)
                · rw [if_neg z] at q2; cases q2
              | c i =>
                simp only [isiK] at q2
                by_cases z : (tyNs.contains b && decide (i < n)) = true
                · rw [if_pos z] at q2
                  cases q2
                  simp only [Bool.and_eq_true, decide_eq_true_eq, List.contains_iff_mem] at z
                  rw [← hK]
                  exact T.k2 i z.2 b z.1
                · rw [if_neg z] at q2; cases q2
            | glo d =>
              cases r2
              refine ⟨x, .ref (G.glo d), _, .ref (G.glo d), r, rfl, .own _, ty, ?_, hQ⟩
              rw [← hK]
              cases k with
              | b a =>
                simp only [isiK] at q2
                by_cases z : d < n
                · rw [if_pos z] at q2
                  cases q2
                  rw [T.gl d z]
                  exact T.k1 a (kdW_b q1) d z
                · rw [if_neg z] at q2; cases q2
              | c i =>
                simp only [isiK] at q2
                by_cases z1 : i < n
                · rw [if_pos z1] at q2
                  by_cases z : d < n
                  · rw [if_pos z] at q2
                    cases q2
                    rw [T.gl d z]
                    exact T.k3 i z1 d z
                  · rw [if_neg z] at q2; cases q2
                · rw [if_neg z1] at q2; cases q2
            | _ => cases k <;> cases q2
/-! ### < and <= -/
@[simp] def ltS : W → W → M W := fun v u S => match v, u with
  | .str i, .str j => .ok (.bl (decide (i.cps.toList < j.cps.toList))) S
  | _, _ => .stuck
theorem o_ltI : OpR X (compareOp .Lt) (upR G ltI) := o_II (rI_of op_lt) (fun _ _ _ => trivial) fun _ _ _ _ => rfl
theorem o_leI : OpR X (compareOp .LtE) (upR G leI) := o_II (rI_of op_le) (fun _ _ _ => trivial) fun _ _ _ _ => rfl
theorem o_ltS : OpR X (compareOp .Lt) (upR G ltS) := by
  refine OpR.imp ?_ op_lt_str
  rintro x y H Q ⟨ρ, v, u, S, rv, ru, hh, hp⟩
  cases v with
  | str i =>
    cases u with
    | str j => exact ⟨i, j, rv, ru, hp ρ H .refl hh _ rfl⟩
    | _ => exact hp.elim
  | _ => exact hp.elim
/-! ### a, b = x, y -/
@[simp] def sPar (is : List Nat) (f : AM) : SM := fun ls S => toS (f ls S) ls fun vs S1 => if vs.length = is.length then .nx ((is.zip vs).foldl (fun l q => l.set q.1 (some q.2)) ls) S1 else .stuck
theorem s_par {i j : Nat} {x y : Str} {px py pt : Pos} {kt k2 pt2} (hN : X.N.Nodup) (hi : X.N[i]? = some x) (hj : X.N[j]? = some y) (hij : i ≠ j) (hx : X.env.scope.names.lookup x = some .local) (hy : X.env.scope.names.lookup y = some .local) (ha : PA X [a, b] (upA G Wx fs))
    (hc : X.calm = true := by rfl) (hw : swappedStores [.Tuple [.Name x px, .Name y py] kt pt] (.Tuple [a, b] k2 pt2) X.env = pure (some [x, y]) := by rfl)
    (hs : swapsWithSole [.Tuple [.Name x px, .Name y py] kt pt] (.Tuple [a, b] k2 pt2) pos.line X.env = pure false := by rfl) :
    PS X (.Assign [.Tuple [.Name x px, .Name y py] kt pt] (.Tuple [a, b] k2 pt2) pos) (upS G Wx (sPar [i, j] fs)) :=
  PS.imp (fun D σ H ⟨ρ, ls, S, hs, hh, hp⟩ => ⟨ρ, ls, S, hs, hh, (PostS.of hs hp).mono fun vs S1 ρ1 H1 s1 h1 q xs rs => by
    cases vs with
    | nil => exact q.elim
    | cons v vs =>
      cases vs with
      | nil => exact q.elim
      | cons u vs =>
        cases vs with
        | cons _ _ => exact q.elim
        | nil =>
          obtain ⟨y, z, rfl, r1, r2⟩ := rel2 rs
          exact ⟨y, z, rfl, q ρ1 H1 _ .refl h1 (((hs.step s1).set r1 i).set r2 j)⟩⟩) (ps_par hc hN hi hj hij hx hy ha hw hs)
theorem s_par3 {i j l : Nat} {x y z : Str} {px py pz pt pos : Pos} {kt k2 pt2} (hN : X.N.Nodup) (hi : X.N[i]? = some x) (hj : X.N[j]? = some y) (hl : X.N[l]? = some z) (hij : i ≠ j) (hil : i ≠ l) (hjl : j ≠ l)
    (hx : X.env.scope.names.lookup x = some .local) (hy : X.env.scope.names.lookup y = some .local) (hz : X.env.scope.names.lookup z = some .local) (ha : PA X [a, b, c] (upA G Wx fs)) (hc : X.calm = true := by rfl)
    (hw : swappedStores [.Tuple [.Name x px, .Name y py, .Name z pz] kt pt] (.Tuple [a, b, c] k2 pt2) X.env = pure (some [x, y, z]) := by rfl)
    (hs : swapsWithSole [.Tuple [.Name x px, .Name y py, .Name z pz] kt pt] (.Tuple [a, b, c] k2 pt2) pos.line X.env = pure false := by rfl) :
    PS X (.Assign [.Tuple [.Name x px, .Name y py, .Name z pz] kt pt] (.Tuple [a, b, c] k2 pt2) pos) (upS G Wx (sPar [i, j, l] fs)) :=
  PS.imp (fun D σ H ⟨ρ, ls, S, hs, hh, hp⟩ => ⟨ρ, ls, S, hs, hh, (PostS.of hs hp).mono fun vs S1 ρ1 H1 s1 h1 q xs rs => by
    cases vs with
    | nil => exact q.elim
    | cons v vs =>
      cases vs with
      | nil => exact q.elim
      | cons u vs =>
        cases vs with
        | nil => exact q.elim
        | cons t vs =>
          cases vs with
          | cons _ _ => exact q.elim
          | nil =>
            obtain ⟨y0, ys, rfl, r1, rs⟩ := rs
            obtain ⟨y, z, rfl, r2, r3⟩ := rel2 rs
            exact ⟨y0, y, z, rfl, q ρ1 H1 _ .refl h1 ((((hs.step s1).set r1 i).set r2 j).set r3 l)⟩⟩) (ps_par3 hc hN hi hj hl hij hil hjl hx hy hz ha hw hs)
end
end Mp
set_option Elab.async false
set_option linter.all false
set_option maxRecDepth 100000
set_option maxHeartbeats 4000000
namespace PySem.W
/-- a class whose instances have dicts is there -/
theorem mp_there {K : Frag} {D : Addr} (h : hasDictIn K D = true) : (clsIn K D).isSome = true :=
  have ⟨_, e, _⟩ := any_some h
  Option.isSome_iff_exists.mpr ⟨_, e⟩
end PySem.W
namespace Mp
open PySem PySem.Spec PyProof.Rows L2
/-! ### own objects -/
structure ClsF (G : Gb) (c : Nat) : Prop where
  cl : Cls G.K (G.cls c)
  nd : (G.flds c).Nodup
  na : ∀ f ∈ G.flds c, NoAttr G.K (G.cls c) f
  le : (G.flds c).length < 1000
@[simp] def objV : W → Sto → Option (Nat × List W)
  | .ins c fs, _ => some (c, fs)
  | .loc l, S => match S[l]? with
    | some (.obj c fs) => some (c, fs)
    | _ => none
  | _, _ => none
section
variable {G : Gi}
theorem rel_obj {ρ H S v x c fs} (hh : RelH G ρ H S) (r : RelW G ρ H v x) (e : objV v S = some (c, fs)) : ∃ a dx xs, x = .ref a ∧ H a = some (.ins (G.cls c) dx (((G.flds c).take fs.length).zip xs)) ∧ fs.length ≤ (G.flds c).length ∧ RelWs G ρ H fs xs := by
  cases v with
  | ins c' fs' =>
    cases e
    obtain ⟨a, xs, rfl, ⟨_, hl, dx, h⟩, rs⟩ := r
    refine ⟨a, dx, xs, rfl, ?_, by rw [rs.len, hl]; exact Nat.le_refl _, rs⟩
    rw [rs.len, hl, List.take_of_length_le (Nat.le_refl _)]
    exact h
  | loc l =>
    simp only [objV] at e
    cases q : S[l]? with
    | none => rw [q] at e; cases e
    | some ob =>
      cases ob with
      | obj c' fs' =>
        rw [q] at e
        cases e
        obtain ⟨a, ea, rfl⟩ := r
        obtain ⟨a', xs, dx, e1, e2, el, rs⟩ := hh.at_ l _ q
        rw [ea] at e1; cases e1
        exact ⟨a, dx, xs, rfl, e2, el, rs⟩
      | _ => rw [q] at e; cases e
  | _ => cases e
theorem lookup_zip {f : Str} : ∀ {F : List Str} {xs : List V} {n i : Nat} {x : V}, F.Nodup → F[i]? = some f → i < n → xs[i]? = some x → ((F.take n).zip xs).lookup f = some x
  | [], _, _, _, _, _, e, _, _ => by simp at e
  | g :: F, xs, 0, _, _, _, _, h, _ => absurd h (Nat.not_lt_zero _)
  | g :: F, [], n + 1, i, x, nd, e, h, ex => by simp at ex
  | g :: F, y :: xs, n + 1, 0, x, nd, e, h, ex => by
    simp at e ex
    subst e ex
    simp [List.lookup]
  | g :: F, y :: xs, n + 1, i + 1, x, nd, e, h, ex => by
    have hne : f ≠ g := by
      rintro rfl
      have : f ∈ F := List.mem_of_getElem? (by simpa using e)
      exact (List.nodup_cons.mp nd).1 this
    have hb : (f == g) = false := beq_eq_false_iff_ne.mpr hne
    show List.lookup f ((g, y) :: ((F.take n).zip xs)) = some x
    rw [List.lookup, hb]
    exact lookup_zip (List.nodup_cons.mp nd).2 (by simpa using e) (Nat.lt_of_succ_lt_succ h) (by simpa using ex)
theorem lookup_zip_none {f : Str} : ∀ {F : List Str} {xs : List V} {n : Nat}, f ∉ F → ((F.take n).zip xs).lookup f = none
  | [], _, _, _ => by simp
  | g :: F, xs, 0, _ => by simp
  | g :: F, [], n + 1, _ => by simp
  | g :: F, y :: xs, n + 1, h => by
    have hne : f ≠ g := fun z => h (by rw [z]; exact List.mem_cons_self)
    have hb : (f == g) = false := beq_eq_false_iff_ne.mpr hne
    show List.lookup f ((g, y) :: ((F.take n).zip xs)) = none
    rw [List.lookup, hb]
    exact lookup_zip_none fun z => h (List.mem_cons_of_mem _ z)
theorem putF_set {f : Str} {v : V} : ∀ {F : List Str} {xs : List V} {n i : Nat}, F.Nodup → F[i]? = some f → i < n → n ≤ F.length → xs.length = n → putF f v ((F.take n).zip xs) = (F.take n).zip (xs.set i v)
  | [], _, _, _, _, e, _, _, _ => by simp at e
  | g :: F, xs, 0, _, _, _, h, _, _ => absurd h (Nat.not_lt_zero _)
  | g :: F, [], n + 1, i, nd, e, h, _, el => by simp at el
  | g :: F, y :: xs, n + 1, 0, nd, e, h, _, el => by
    simp at e
    subst e
    simp [putF]
  | g :: F, y :: xs, n + 1, i + 1, nd, e, h, hn, el => by
    have hne : g ≠ f := by
      rintro rfl
      exact (List.nodup_cons.mp nd).1 (List.mem_of_getElem? (by simpa using e))
    show putF f v ((g, y) :: ((F.take n).zip xs)) = _
    rw [putF, if_neg hne, putF_set (List.nodup_cons.mp nd).2 (by simpa using e) (Nat.lt_of_succ_lt_succ h) (by simpa using hn) (by simpa using el)]
    rfl
theorem putF_end {f : Str} {v : V} : ∀ {F : List Str} {xs : List V} {n : Nat}, F.Nodup → F[n]? = some f → xs.length = n → putF f v ((F.take n).zip xs) = (F.take (n + 1)).zip (xs ++ [v])
  | [], _, _, _, e, _ => by simp at e
  | g :: F, [], 0, nd, e, el => by
    simp at e
    subst e
    simp [putF]
  | g :: F, y :: xs, 0, nd, e, el => by simp at el
  | g :: F, [], n + 1, nd, e, el => by simp at el
  | g :: F, y :: xs, n + 1, nd, e, el => by
    have hne : g ≠ f := by
      rintro rfl
      exact (List.nodup_cons.mp nd).1 (List.mem_of_getElem? (by simpa using e))
    show putF f v ((g, y) :: ((F.take n).zip xs)) = _
    rw [putF, if_neg hne, putF_end (List.nodup_cons.mp nd).2 (by simpa using e) (by simpa using el)]
    rfl
theorem obj_put {ρ H S l a c ws xs dx} (hh : RelH G ρ H S) (e : ρ l = some a) (hw : ρ.fz l = false) (hn : Wm H a) (hl : ws.length ≤ (G.flds c).length) (r : RelWs G ρ H ws xs) : RelH G ρ (upd H a (.ins (G.cls c) dx (((G.flds c).take ws.length).zip xs))) (S.set l (.obj c ws)) :=
  hh.put e hw hn ⟨a, xs, dx, e, upd_same, hl, r.step (Step.put e hw hn)⟩
end
/-! ### e.f -/
inductive At where
  | fld (i : Nat) | prop (g : BM) | con (w : W) | no
/-- what class c's f is -/
def AtOk (P : Program) (w : World) (mg : Str → Option Value) (base : Heap) (G : Gi) (k : Nat) (f : Str) (c : Nat) : At → Prop
  | .fld i => ClsF G c ∧ (G.flds c)[i]? = some f
  | .prop g => Cls G.K (G.cls c) ∧ ∃ p a, PropOf G.K (G.cls c) f p a ∧ FnG P w G.K mg base (CX P w) k a (spR G g)
  | .con v => Cls G.K (G.cls c) ∧ f ∉ G.flds c ∧ ∃ x u, Con G.K (G.cls c) f x u ∧ ∀ ρ H, RelW G ρ H v x
  | .no => True
@[simp] def atV (tab : Nat → At) (v : W) : M W := fun S => match objV v S with
  | some (c, fs) => match tab c with
    | .fld i => match fs[i]? with
      | some w => .ok w S
      | none => .stuck
    | .prop g => NoX (g [v] S)
    | .con w => .ok w S
    | .no => .stuck
  | none => .stuck
@[simp] def eAt (tab : Nat → At) (f : EM) : EM := fun ls S => (f ls S).bind fun v S1 => atV tab v S1
section
variable {X : Cx} {G : Gi} {Wx : WX} {a b c e o : Expr} {fa fb fc : EM} {pos pos' p p2 apos : Pos} {es : List Expr} {fs : AM} {ta tb : TM} {x f m : Str} {k : Nat} {tab : Nat → At}
theorem NoX_post' {α : Type} {ρ H} {r : Res α} {Q : α → Sto → Rho → Hp → Prop} {E E'} (h : Post G ρ H (NoX r) Q E) : Post G ρ H r Q E' := NoX_post h
/-- what a getter gives is handed out -/
theorem handOver {pins : List (Addr × Obj)} {σ : L2.St} {s : Shared} {Q : VK} {u : Value} : EP X pins σ Q u s → wpAny (model X.prog X.w) X.A (handedOut u) (EP X pins σ Q) X.xe s
  | ⟨v, H, I, r, q⟩ => (PySem.W.handedOut_of (handed_of r)).symm ▸ wpAny_pure ⟨v, H, I, r, q⟩
theorem getprop_R {pins : List (Addr × Obj)} {σ : L2.St} {H : Hp} {s : Shared} {Q : VK} {b : Bool} {a C dx p gA : Addr} {fs : List (Str × V)} {g : BM} (tk : Takes X Wx) (I : Inv X pins σ H s) (ea : H a = some (.ins C dx fs)) (c : Cls X.K C) (hp : PropOf X.K C f p gA)
    (F : FnG X.prog X.w X.K X.mg X.base (CX X.prog X.w) k gA (spR G g)) (hr : Rm (k + 1) X.A) (h : spR G g [.ref a] H Q NoE) :
    wpAny (model X.prog X.w) X.A (getAttr (.ref a) f b) (EP X pins σ Q) X.xe s := by
  have ⟨_, inst, _⟩ := ins_get I.hok ea
  have ⟨_, there, _⟩ := inst.look
  have ⟨_, getter⟩ := hp.rec_
  have plain := PySem.W.plainGet_of (c.get f)
  have found := fun od => PySem.W.findObj_data (od := od) (PySem.W.mp_there c.hd) hp.at_ hp.get hp.tak
  have J := I.tok (s.toks + 1)
  have does := F X.A.in1 X.stack { s with toks := s.toks + 1 } H [.ref a] [.ref a] Q _ hr.in1 J.env0.in1 (.cons rfl .nil) h
  refine PySem.W.get_bind I.kIn there plain.1 (found _) plain.2 (wpAny_call (PySem.W.prop_get (s := { s with toks := s.toks + 1 }) I.kIn getter (codeAny_mono does ?_)))
  exact fun
    | .ok (.ret _), _, q => handOver (J.after q)
    | .ok .next, _, q | .ok .brk, _, q | .ok .cont, _, q => False.elim q
    | .error _, _, ⟨_, _, _, _, _, _, _, _, _, _, _, _, no⟩ => no.elim
theorem at_ok {pins : List (Addr × Obj)} {σ : L2.St} {H1 : Hp} {s1 : Shared} {Q : VK} {ρ1 : Rho} {v : W} {S1 : Sto} {x : V} {u : Value} (tk : Takes X Wx) (hK : G.K = X.K) (hr : Rm (k + 1) X.A) (T : ∀ c, AtOk X.prog X.w X.mg X.base G k f c (tab c)) (I1 : Inv X pins σ H1 s1) (ru : RelV x u) (rx : RelW G ρ1 H1 v x) (h1 : RelH G ρ1 H1 S1)
    (q : Post G ρ1 H1 (atV tab v S1) (QW G Q) fun c d H' => Wx c d σ H') : wpAny (model X.prog X.w) X.A (getAttr u f true) (EP X pins σ Q) X.xe s1 := by
  simp only [atV] at q
  cases q1 : objV v S1 with
  | none => rw [q1] at q; exact q.elim
  | some cf =>
    obtain ⟨c, fs⟩ := cf
    rw [q1] at q
    obtain ⟨a, dx, xs, rfl, ea, hl, rs⟩ := rel_obj h1 rx q1
    obtain rfl : u = Value.ref a := ru
    have Tc := T c
    simp only at q
    cases q2 : tab c with
    | no => rw [q2] at q; exact q.elim
    | fld i =>
      rw [q2] at q Tc
      simp only at q
      cases q3 : fs[i]? with
      | none => rw [q3] at q; exact q.elim
      | some w =>
        rw [q3] at q
        obtain ⟨y, hy, ry⟩ := rs.get q3
        have hi : i < fs.length := (List.getElem?_eq_some_iff.mp q3).1
        refine getattr_ok I1 ea (hK ▸ Tc.1.cl) (hK ▸ Tc.1.na f (List.mem_of_getElem? Tc.2)) (lookup_zip Tc.1.nd Tc.2 hi hy) fun u' s2 I2 ru => ⟨y, H1, I2, ru, q ρ1 H1 .refl h1 y ry⟩
    | con w =>
      rw [q2] at q Tc
      obtain ⟨cl, nf, y, u, k, ry⟩ := Tc
      rw [hK] at cl k
      exact getcon_ok I1 ea cl k (lookup_zip_none nf) fun s2 I2 => ⟨y, H1, I2, k.rel, q ρ1 H1 .refl h1 y (ry ρ1 H1)⟩
    | prop g =>
      rw [q2] at q Tc
      obtain ⟨cl, p, gA, hpo, F⟩ := Tc
      rw [hK] at cl hpo F
      exact getprop_R tk I1 ea cl hpo F hr ⟨ρ1, [v], S1, ⟨_, [], rfl, rx, rfl⟩, h1, NoX_post' q⟩
theorem e_at (tk : Takes X Wx) (hK : G.K = X.K) (hr : Rm (k + 1) X.A) (T : ∀ c, AtOk X.prog X.w X.mg X.base G k f c (tab c)) (he : PE X e (upE G Wx fa)) (hb : attributeBase e f X.env (eval e X.env) = eval e X.env := by rfl) : PE X (.Attribute e f pos) (upE G Wx (eAt tab fa)) := by
  refine ⟨fun pins s σ H Q I ⟨ρ, ls, S, hs, hh, hp⟩ => ?_⟩
  refine attr_of hb (thn (he.run pins s σ H (fun x H1 => ∃ ρ1 v S1, RelW G ρ1 H1 v x ∧ RelH G ρ1 H1 S1 ∧ Post G ρ1 H1 (atV tab v S1) (QW G Q) fun c d H' => Wx c d σ H') I ⟨ρ, ls, S, hs, hh, (Post.bind hp).mono fun v S1 ρ1 H1 s1 h1 q x rx => ⟨ρ1, v, S1, rx, h1, q⟩⟩) fun u s1 ⟨x, H1, I1, ru, ρ1, v, S1, rx, h1, q⟩ => ?_)
  exact at_ok tk hK hr T I1 ru rx h1 q
/-! ### e.f = value -/
@[simp] def setV (tab : Nat → Option Nat) (l : Nat) (w : W) (S : Sto) : Option Sto := match S[l]? with
  | some (.obj c fs) => match tab c with
    | some i => if i < fs.length then some (S.set l (.obj c (fs.set i w))) else if i = fs.length then some (S.set l (.obj c (fs ++ [w]))) else none
    | none => none
  | _ => none
@[simp] def sFld (tab : Nat → Option Nat) (fo fv : EM) : SM := fun ls S => toS (fv ls S) ls fun w S1 => toS (fo ls S1) ls fun v S2 => match v with
  | .loc l => match setV tab l w S2 with
    | some S3 => .nx ls S3
    | none => .stuck
  | _ => .stuck
theorem s_fld {value : Expr} {ti : Nat → Option Nat} (hK : G.K = X.K) (T : ∀ c i, ti c = some i → ClsF G c ∧ (G.flds c)[i]? = some f) (ha : PE X o (upE G Wx fa)) (hv : PE X value (upE G Wx fb)) (hsw : swapsWith value (some (.Attribute o f pos')) pos.line X.env = pure false := by rfl) :
    PS X (.Assign [.Attribute o f pos'] value pos) (upS G Wx (sFld ti fa fb)) := PS.imp (fun D σ H ⟨ρ, ls, S, hs, hh, hp⟩ => by
  refine ⟨ρ, ls, S, hs, hh, (PostS.of hs hp).mono fun w S1 ρ1 H1 s1 h1 q y ry => ⟨ρ1, ls, S1, hs.step s1, h1, (PostS.of (hs.step s1) q).mono fun v S2 ρ2 H2 s2 h2 q2 x rx => ?_⟩⟩
  cases v with
  | loc l =>
    simp only [setV] at q2
    cases q3 : S2[l]? with
    | none => rw [q3] at q2; exact q2.elim
    | some ob =>
      cases ob with
      | obj c fs =>
        rw [q3] at q2
        simp only at q2
        cases q4 : ti c with
        | none => rw [q4] at q2; exact q2.elim
        | some i =>
          rw [q4] at q2
          obtain ⟨cf, hf⟩ := T c i q4
          have hw := h2.warm q3 (by simp)
          obtain ⟨a, ea, rfl⟩ := rx
          obtain ⟨a', xs, dx, e1, e2, el, rs⟩ := h2.at_ l _ q3
          rw [ea] at e1; cases e1
          have hF : i < (G.flds c).length := (List.getElem?_eq_some_iff.mp hf).1
          have hlen : ((((G.flds c).take fs.length).zip xs)).length < 1000 := by
            have := cf.le
            rw [List.length_zip, List.length_take]
            omega
          refine ⟨a, G.cls c, dx, _, rfl, e2, hK ▸ cf.cl, hK ▸ cf.na f (List.mem_of_getElem? hf), hlen, ?_⟩
          simp only at q2
          have hn : Wm H2 a := ⟨_, e2, rfl⟩
          have st : ∀ (dx : Addr) (fs : List (Str × V)), Step ρ2 H2 ρ2 (upd H2 a (.ins (G.cls c) dx fs)) := fun dx fs => Step.put ea hw hn
          by_cases z : i < fs.length
          · rw [if_pos z] at q2
            rw [putF_set cf.nd hf z el (rs.len.symm)]
            have := obj_put (dx := dx) (ws := fs.set i w) h2 ea hw hn (by simpa using el) (RelWs.set (RelW.step s2 ry) i rs)
            rw [List.length_set] at this
            exact q2 ρ2 _ σ (st _ _) this (((hs.step s1).step s2).step (st _ _))
          · rw [if_neg z] at q2
            by_cases z2 : i = fs.length
            · rw [if_pos z2] at q2
              subst z2
              rw [putF_end cf.nd hf rs.len.symm]
              have := obj_put (c := c) (dx := dx) (ws := fs ++ [w]) h2 ea hw hn (by rw [List.length_append]; exact hF) (rs.append ⟨y, [], rfl, ry.step s2, rfl⟩)
              rw [List.length_append] at this
              exact q2 ρ2 _ σ (st _ _) this (((hs.step s1).step s2).step (st _ _))
            · rw [if_neg z2] at q2; exact q2.elim
      | _ => rw [q3] at q2; exact q2.elim
  | _ => exact q2.elim) (ps_fld ha hv hsw)
/-! ### C(..) -/
/-- the place l is written no more: its object is a value now -/
@[simp] def frzO (c n l : Nat) : M W := fun S => match S[l]? with
  | some (.obj d fs) => if d = c then (if fs.length = n then .ok (.ins c fs) (S.set l .dead) else .stuck) else .stuck
  | _ => .stuck
@[simp] def keepO (_c _n l : Nat) : M W := fun S => .ok (.loc l) S
@[simp] def eNew (fin : Nat → Nat → Nat → M W) (c n : Nat) (init : BM) (g : AM) : EM := fun ls S => (g ls S).bind fun vs S1 => (init (.loc S1.length :: vs) (S1 ++ [.obj c []])).bind fun v S2 => match v with
  | .non => fin c n S1.length S2
  | _ => .stuck
def cool (ρ : Rho) (l : Nat) : Rho := ⟨ρ.pl, fun k => ρ.fz k || k == l⟩
/-- the end of a making: from ρ, l's new place -/
theorem frz_post {ρ H S c n l a Q E} (hh : RelH G ρ H S) (e : ρ l = some a) (hn : n = (G.flds c).length) (hp : Post G ρ H (frzO c n l S) (QW G Q) E) : Q (.ref a) H := by
  simp only [frzO] at hp
  cases q : S[l]? with
  | none => rw [q] at hp; exact hp.elim
  | some ob =>
    cases ob with
    | obj d fs =>
      rw [q] at hp
      simp only at hp
      by_cases z : d = c
      · rw [if_pos z] at hp
        subst z
        by_cases z2 : fs.length = n
        · rw [if_pos z2] at hp
          obtain ⟨a', xs, dx, e1, e2, el, rs⟩ := hh.at_ l _ q
          rw [e] at e1; cases e1
          have hl : l < S.length := (hh.dom l a e).1
          have st : Step ρ H (cool ρ l) H := ⟨fun _ _ h => h, fun _ _ h => .inl h, fun _ _ h _ _ => h, fun _ h => h, fun k h => by show (ρ.fz k || k == l) = true; rw [h]; rfl⟩
          have hh2 : RelH G (cool ρ l) H (S.set l .dead) := by
            refine ⟨hh.inj, fun k b q => ⟨by rw [List.length_set]; exact (hh.dom k b q).1, (hh.dmn k b q).2⟩, fun k ob' q => ?_, fun k q => ?_, hh.tabs, G.stab st hh.inv⟩
            · by_cases y : l = k
              · subst y
                rw [List.getElem?_set_self hl] at q
                cases q
                trivial
              · rw [List.getElem?_set_ne y] at q
                exact (hh.at_ k ob' q).step st fun _ _ => rfl
            · by_cases y : l = k
              · subst y; exact List.getElem?_set_self hl
              · rw [List.getElem?_set_ne y]
                have : (ρ.fz k || k == l) = true := q
                rw [beq_eq_false_iff_ne.mpr (fun z => y z.symm), Bool.or_false] at this
                exact hh.hot k this
          refine hp (cool ρ l) H st hh2 _ ⟨a, xs, rfl, ⟨?_, ?_, dx, ?_⟩, rs.step st⟩
          · intro k hk ek
            have := hh.inj k l a ek e
            subst this
            have hk' : (ρ.fz k || k == k) = false := hk
            simp at hk'
          · rw [← rs.len, z2, hn]
          · rw [e2, z2, hn, List.take_of_length_le (Nat.le_refl _)]
        · rw [if_neg z2] at hp; exact hp.elim
      · rw [if_neg z] at hp; exact hp.elim
    | _ => rw [q] at hp; exact hp.elim
theorem keep_post {ρ H S c n l a Q E} (hh : RelH G ρ H S) (e : ρ l = some a) (hn : n = (G.flds c).length) (hp : Post G ρ H (keepO c n l S) (QW G Q) E) : Q (.ref a) H := hp ρ H .refl hh _ ⟨a, e, rfl⟩
theorem made_H {ρ H S c x dx} (hh : RelH G ρ H S) (hx : H x = none) (hd : H dx = none) (ne : dx ≠ x) : Step ρ H (ext ρ S.length x) (upd (upd H dx (.own x)) x (.ins (G.cls c) dx [])) ∧ RelH G (ext ρ S.length x) (upd (upd H dx (.own x)) x (.ins (G.cls c) dx [])) (S ++ [.obj c []]) := by
  have h1 : RelH G ρ (upd H dx (.own x)) S := hh.lay hd
  have hx1 : upd H dx (.own x) x = none := by rw [upd_ne (fun z => ne z.symm)]; exact hx
  exact ⟨(Step.lay hd).trans (Step.new_ h1 hx1), h1.new_ hx1 ⟨x, [], dx, ext_same, by rw [upd_same]; rfl, Nat.zero_le _, rfl⟩⟩
theorem run_mk {pins : List (Addr × Obj)} {σ : L2.St} {H : Hp} {s : Shared} {us : List Value} {vs : List V} {Q : VK} {C f : Addr} {g : BM} (tk : Takes X Wx) (M : Mk X.K C f) (F : FnG X.prog X.w X.K X.mg X.base (CX X.prog X.w) k f (spR G g)) (hr : Rm (k + 1) X.A) (I : Inv X pins σ H s) (r : Vals vs us)
    (h : ∀ x dx, H x = none → H dx = none → dx ≠ x → spR G g (.ref x :: vs) (upd (upd H dx (.own x)) x (.ins C dx [])) (fun v H2 => v = .non ∧ Q (.ref x) H2) fun c d H' => Wx c d σ H') :
    wpAny (model X.prog X.w) X.A (call (.ref C) us) (EP X pins σ Q) X.xe s := by
  have J := Inv.made (C := C) I
  have does := F _ X.stack _ _ (.ref (s.heap.objs.size + 1) :: us) (.ref (s.heap.objs.size + 1) :: vs) _ _ (hr.make C us []) (J.env0.make C us []) (.cons rfl r) (h _ _ (I.hok.fresh (Nat.le_succ _)) (I.hok.fresh (Nat.le_refl _)) (Nat.ne_of_lt (Nat.lt_succ_self _)))
  refine wpAny_call (make_map (f := f) I.kIn M.makes M.init (beq_iff_eq.mp M.fn) (codeAny_mono does fun
    | .error e, s', q => passAt tk σ pins _ _ e s' J q
    | .ok (.ret _), s', q => ?_
    | .ok .next, _, q | .ok .brk, _, q | .ok .cont, _, q => False.elim q))
  obtain ⟨_, H', K, rv, rfl, q⟩ := J.after q
  exact ⟨rv, V.ref (s.heap.objs.size + 1), H', K, rfl, q⟩
theorem e_new {cn n : Nat} {f : Addr} {g : BM} {fin : Nat → Nat → Nat → M W} (hfin : ∀ {ρ H S l a Q E}, RelH G ρ H S → ρ l = some a → Post G ρ H (fin cn n l S) (QW G Q) E → Q (.ref a) H) (tk : Takes X Wx) (hK : G.K = X.K) (M : Mk G.K (G.cls cn) f) (F : FnG X.prog X.w X.K X.mg X.base (CX X.prog X.w) k f (spR G g)) (hr : Rm (k + 1) X.A) (hg : Gl X x) (hm : X.mg x = some (.ref (G.cls cn)))
    (ha : PA X (e :: es) (upA G Wx fs)) (hdb : (x == ("__debug__" : Str)) = false := by decide)
    (he : starEach (e :: es) X.env = (false, eval e X.env) :: starEach es X.env := by rfl) (hpl : (backTo pos (starEach es X.env)).any (·.1) = false := by rfl) : PE X (.Call (.Name x p) (e :: es) [] pos) (upE G Wx (eNew fin cn n g fs)) := by
  refine ⟨fun pins s σ H Q I ⟨ρ, ls, S, hs, hh, hp⟩ => ?_⟩
  have M' : Mk X.K (G.cls cn) f := hK ▸ M
  refine wpAny_Call_Name_kw (ld_glob I hg hm ?_ hdb)
  refine PySem.W.callWith_K (h₀ := X.base) I.ok.mod.kin M'.kp (thn (ha.run pos pins s σ H (fun vs H1 => ∃ ρ1 ws S1, RelWs G ρ1 H1 ws vs ∧ RelH G ρ1 H1 S1 ∧ Post G ρ1 H1 ((g (.loc S1.length :: ws) (S1 ++ [.obj cn []])).bind fun v S2 => match v with | .non => fin cn n S1.length S2 | _ => .stuck) (QW G Q) fun c d H' => Wx c d σ H') I ⟨ρ, ls, S, hs, hh, (Post.bind hp).mono fun ws S1 ρ1 H1 s1 h1 q xs rs => ⟨ρ1, ws, S1, rs, h1, q⟩⟩) fun us s1 ⟨vs, H1, I1, r, ρ1, ws, S1, rs, h1, q⟩ => ⟨I1.kIn, ?_⟩) he hpl
  refine run_mk (Q := Q) tk M' F hr I1 r fun x dx hx hd ne => ?_
  obtain ⟨st, hm2⟩ := made_H (c := cn) h1 hx hd ne
  refine ⟨ext ρ1 S1.length x, .loc S1.length :: ws, S1 ++ [.obj cn []], ⟨_, _, rfl, ⟨x, ext_same, rfl⟩, rs.step st⟩, hm2, (Post.bind (Post.step st q)).mono fun v S2 ρ2 H2 s2 h2 q2 y ry => ?_⟩
  cases v with
  | non => exact ⟨ry, hfin h2 (s2.sub _ _ ext_same) q2⟩
  | _ => exact q2.elim
end
end Mp
set_option Elab.async false
set_option linter.all false
set_option maxRecDepth 100000
set_option maxHeartbeats 4000000
namespace Mp
open PySem PySem.Spec PyProof.Rows L2
/-! ### methods of own objects -/
def MeOk (P : Program) (w : World) (mg : Str → Option Value) (base : Heap) (G : Gi) (k : Nat) (m : Str) (c : Nat) : Option BM → Prop
  | some g => Cls G.K (G.cls c) ∧ m ∉ G.flds c ∧ ∃ a, Meth G.K (G.cls c) m a ∧ FnG P w G.K mg base (CX P w) k a (spR G g)
  | none => True
@[simp] def meV (tab : Nat → Option BM) (v : W) (S : Sto) : Option BM := match objV v S with
  | some (c, _) => tab c
  | none => none
@[simp] def eMe (tab : Nat → Option BM) (f : EM) (g : AM) : EM := fun ls S => (f ls S).bind fun v S1 => match meV tab v S1 with
  | some h => (g ls S1).bind fun vs S2 => h (v :: vs) S2
  | none => .stuck
section
variable {X : Cx} {G : Gi} {Wx : WX} {a b c e o : Expr} {fa fb fc : EM} {pos pos' p p2 apos : Pos} {es : List Expr} {fs : AM} {ta tb : TM} {x f m : Str} {k : Nat}
theorem e_me {tab : Nat → Option BM} {pl : Sem Bool} (tk : Takes X Wx) (hK : G.K = X.K) (hr : Rm k X.A) (T : ∀ c, MeOk X.prog X.w X.mg X.base G k m c (tab c)) (ho : PE X o (upE G Wx fa)) (ha : PA X (e :: es) (upA G Wx fs))
    (hst : starEach (e :: es) X.env = (false, eval e X.env) :: starEach es X.env := by rfl) (hpl : (backTo pos (starEach es X.env)).any (·.1) = false := by rfl)
    (ht : eval (.Call (.Attribute o m apos) (e :: es) [] pos) X.env = (do
      let ov ← eval o X.env
      standAt apos.atName
      let (f, first) ← holding [ov] (getMethod ov m pl)
      callWith pos f first (backTo pos (starEach (e :: es) X.env)) (backToKw pos (keywordEach [] X.env))) := by rfl) :
    PE X (.Call (.Attribute o m apos) (e :: es) [] pos) (upE G Wx (eMe tab fa fs)) := by
  refine ⟨fun pins s σ H Q I ⟨ρ, ls, S, hs, hh, hp⟩ => ?_⟩
  refine PySem.W.methodCall_KW (pl := pl) (thn (ho.run pins s σ H (fun x H1 => ∃ ρ1 v S1, RelW G ρ1 H1 v x ∧ RelS G ρ1 H1 ls σ ∧ RelH G ρ1 H1 S1 ∧ Post G ρ1 H1 (match meV tab v S1 with | some h => (fs ls S1).bind fun vs S2 => h (v :: vs) S2 | none => .stuck) (QW G Q) fun c d H' => Wx c d σ H') I ⟨ρ, ls, S, hs, hh, (Post.bind hp).mono fun v S1 ρ1 H1 s1 h1 q x rx => ⟨ρ1, v, S1, rx, hs.step s1, h1, q⟩⟩) fun u s1 ⟨x, H1, I1, ru, ρ1, v, S1, rx, hs1, h1, q⟩ => ?_) ht
  simp only [meV] at q
  cases q1 : objV v S1 with
  | none => rw [q1] at q; exact q.elim
  | some cf =>
    obtain ⟨c, fl⟩ := cf
    rw [q1] at q
    obtain ⟨a, dx, xs, rfl, ea, hl, rs⟩ := rel_obj h1 rx q1
    obtain rfl : u = Value.ref a := ru
    have Tc := T c
    simp only at q
    cases q2 : tab c with
    | none => rw [q2] at q; exact q.elim
    | some g =>
      rw [q2] at q Tc
      obtain ⟨cl, nf, fa', me, F⟩ := Tc
      rw [hK] at cl me F
      refine getmeth_ok I1 ea cl me (lookup_zip_none nf) ?_
      refine PySem.W.callWith_K (first := [.ref a]) (h₀ := X.base) I.ok.mod.kin me.kp (thn (ha.run pos pins s1 σ H1 (fun ys H2 => spR G g (.ref a :: ys) H2 Q fun c d H' => Wx c d σ H') I1 ⟨ρ1, ls, S1, hs1, h1, (Post.bind q).mono fun vs S2 ρ2 H2 s2 h2 q3 ys ry => ⟨ρ2, v :: vs, S2, ⟨_, _, rfl, rx.step s2, ry⟩, h2, q3⟩⟩) fun us s2 ⟨vs, H2, I2, r, q4⟩ => ⟨I2.kIn, ?_⟩) hst hpl
      exact wpAny_call (run_R (us := .ref a :: us) (vs := .ref a :: vs) tk F hr I2 (.cons rfl r) q4)
theorem e_me0 {tab : Nat → Option BM} {pl : Sem Bool} (tk : Takes X Wx) (hK : G.K = X.K) (hr : Rm k X.A) (T : ∀ c, MeOk X.prog X.w X.mg X.base G k m c (tab c)) (ho : PE X o (upE G Wx fa))
    (ht : eval (.Call (.Attribute o m apos) [] [] pos) X.env = (do
      let ov ← eval o X.env
      standAt apos.atName
      let (f, first) ← holding [ov] (getMethod ov m pl)
      callWith pos f first (backTo pos (starEach [] X.env)) (backToKw pos (keywordEach [] X.env))) := by rfl) :
    PE X (.Call (.Attribute o m apos) [] [] pos) (upE G Wx (eMe tab fa aNil)) := by
  refine ⟨fun pins s σ H Q I ⟨ρ, ls, S, hs, hh, hp⟩ => ?_⟩
  refine PySem.W.methodCall_KW (pl := pl) (thn (ho.run pins s σ H (fun x H1 => ∃ ρ1 v S1, RelW G ρ1 H1 v x ∧ RelS G ρ1 H1 ls σ ∧ RelH G ρ1 H1 S1 ∧ Post G ρ1 H1 (match meV tab v S1 with | some h => (aNil ls S1).bind fun vs S2 => h (v :: vs) S2 | none => .stuck) (QW G Q) fun c d H' => Wx c d σ H') I ⟨ρ, ls, S, hs, hh, (Post.bind hp).mono fun v S1 ρ1 H1 s1 h1 q x rx => ⟨ρ1, v, S1, rx, hs.step s1, h1, q⟩⟩) fun u s1 ⟨x, H1, I1, ru, ρ1, v, S1, rx, hs1, h1, q⟩ => ?_) ht
  simp only [meV] at q
  cases q1 : objV v S1 with
  | none => rw [q1] at q; exact q.elim
  | some cf =>
    obtain ⟨c, fl⟩ := cf
    rw [q1] at q
    obtain ⟨a, dx, xs, rfl, ea, hl, rs⟩ := rel_obj h1 rx q1
    obtain rfl : u = Value.ref a := ru
    have Tc := T c
    simp only at q
    cases q2 : tab c with
    | none => rw [q2] at q; exact q.elim
    | some g =>
      rw [q2] at q Tc
      obtain ⟨cl, nf, fa', me, F⟩ := Tc
      rw [hK] at cl me F
      refine getmeth_ok I1 ea cl me (lookup_zip_none nf) ?_
      exact PySem.W.callWith_K0 (first := [.ref a]) I1.kIn me.kp (wpAny_call (run_R (us := [.ref a]) (vs := [.ref a]) tk F hr I1 (.cons rfl .nil) ⟨ρ1, [v], S1, ⟨_, [], rfl, rx, rfl⟩, h1, q⟩))
/-! ### raise C(..), C an own exception whose __init__ keeps its arguments -/
def putX (flds : List Str) (vs : List V) : List (Str × V) := (flds.zip vs).reverse
/-- __init__ of n arguments, put one behind another into the fields -/
def spEx (C : Addr) (fl : List Str) : Sp := fun vs H Q _ => ∃ a ws, vs = .ref a :: ws ∧ ws.length = fl.length ∧ fl ≠ [] ∧ H a = some (exo a C none) ∧ ∀ d, H d = none → d ≠ a → Q .non (upd (upd H d (exd d (putX fl ws))) a (exo a C (some d)))
structure ExC (G : Gb) (c : Nat) (fl : List Str) : Prop where
  ox : OexC G.K (G.cls c)
  no : ∀ f ∈ fl, PySem.W.findIn G.K (.ref (G.cls c)) f = some none
  nd : fl.Nodup
  fr : G.flds c = fl.reverse
theorem exi1 {σ : L2.St} {H : Hp} {K : PySem.W.Frag} {C : Addr} {f1 : Str} {Q : VK} {E : XK} {p1 : Str} {vs : List V} (ox : OexC K C) (n1 : PySem.W.findIn K (.ref C) f1 = some none) (h : spEx C [f1] vs H Q E) : tOst K f1 (tVar 0) (tVar 1) { nx := fun _ H' => Q .non H', rt := Q } (L2.start ["self", p1] vs) H := by
  obtain ⟨a, ws, rfl, hl, _, ha, q⟩ := h
  cases ws with
  | nil => cases hl
  | cons y ws =>
    cases ws with
    | cons _ _ => cases hl
    | nil => exact ⟨y, rfl, .ref a, rfl, a, C, rfl, ox, n1, .inl ⟨ha, fun dx hn ne => q dx hn ne⟩⟩
theorem exi2 {σ : L2.St} {H : Hp} {K : PySem.W.Frag} {C : Addr} {f1 f2 : Str} {Q : VK} {E : XK} {p1 p2 : Str} {vs : List V} (ox : OexC K C) (n1 : PySem.W.findIn K (.ref C) f1 = some none) (n2 : PySem.W.findIn K (.ref C) f2 = some none) (h : spEx C [f1, f2] vs H Q E) :
    tSeq (tOst K f1 (tVar 0) (tVar 1)) (tOst K f2 (tVar 0) (tVar 2)) { nx := fun _ H' => Q .non H', rt := Q } (L2.start ["self", p1, p2] vs) H := by
  obtain ⟨a, ws, rfl, hl, _, ha, q⟩ := h
  cases ws with
  | nil => cases hl
  | cons y ws =>
    cases ws with
    | nil => cases hl
    | cons z ws =>
      cases ws with
      | cons _ _ => cases hl
      | nil =>
        refine ⟨y, rfl, .ref a, rfl, a, C, rfl, ox, n1, .inl ⟨ha, fun dx hn ne => ?_⟩⟩
        refine ⟨z, rfl, .ref a, rfl, a, C, rfl, ox, n2, .inr ⟨dx, [(f1, y)], upd_same, by rw [upd_ne ne, upd_same], by simp, ?_⟩⟩
        have e : upd (upd (upd H dx (exd dx [(f1, y)])) a (exo a C (some dx))) dx (exd dx ((f2, z) :: [(f1, y)])) = upd (upd H dx (exd dx (putX [f1, f2] [y, z]))) a (exo a C (some dx)) := by
          funext b
          by_cases h1 : b = dx
          · subst h1; rw [upd_same, upd_ne ne, upd_same]; rfl
          · rw [upd_ne h1]
            by_cases h2 : b = a
            · subst h2; rw [upd_same, upd_same]
            · rw [upd_ne h2, upd_ne h2, upd_ne h1, upd_ne h1]
        have := q dx hn ne
        rw [← e] at this
        exact this
@[simp] def sRaise (c n : Nat) (g : AM) : SM := fun ls S => toS (g ls S) ls fun vs S1 => if vs.length = n then .exc c vs.reverse ls S1 else .stuck
theorem zip_rev {fl : List Str} {vs : List V} (h : vs.length = fl.length) : putX fl vs = fl.reverse.zip vs.reverse := by
  show (List.zipWith Prod.mk fl vs).reverse = List.zipWith Prod.mk fl.reverse vs.reverse
  exact List.reverse_zipWith h.symm
theorem s_raise {cn n : Nat} {fI : Addr} {fd : FuncData} {ps fl : List Str} {x : Str} {pc : Pos} (tk : Takes X Wx) (hK : G.K = X.K) (T : ExC G cn fl) (hn : n = fl.length) (hn0 : fl ≠ []) (hn9 : fl.length ≤ 9) (iC : PySem.W.findIn G.K (.ref (G.cls cn)) "__init__" = some (some (.ref fI))) (tI : PySem.W.typeIn G.K (.ref fI) = some (.type "function"))
    (F : FnOk X.prog X.w X.K X.mg X.base (CX X.prog X.w) k fI fd ps (spEx (G.cls cn) fl)) (hr : Rm (k + 1) X.A) (hb : Binds X.K fd ps []) (hg : Gl X x) (hm : X.mg x = some (.ref (G.cls cn))) (ha : PA X (e :: es) (upA G Wx fs)) (hc : X.calm = true := by rfl)
    (hdb : (x == ("__debug__" : Str)) = false := by decide) (he : starEach (e :: es) X.env = (false, eval e X.env) :: starEach es X.env := by rfl) (hpl : (backTo pc (starEach es X.env)).any (·.1) = false := by rfl) :
    PS X (.Raise (some (.Call (.Name x p) (e :: es) [] pc)) none pos) (upS G Wx (sRaise cn n fs)) := by
  refine PS.imp ?_ (ps_raise hc tk (pmk_oex (hK ▸ T.ox) (hK ▸ iC) (hK ▸ tI) F hr.rm hb .nil (fun pins σ H s e s' _ hq => by obtain ⟨_, _, _, _, _, _, _, _, _, _, _, _, z⟩ := hq; exact z.elim) hg hm ha hdb he hpl))
  rintro D σ H ⟨ρ, ls, S, hs, hh, hp⟩
  refine ⟨ρ, ls, S, hs, hh, (PostS.of hs hp).mono fun ws S1 ρ1 H1 s1 h1 q vs rs => ?_⟩
  by_cases z : ws.length = n
  · rw [if_pos z] at q
    have hl : vs.length = fl.length := by rw [← rs.len, z, hn]
    refine ⟨by omega, fun a na => ⟨a, vs, by rw [List.append_nil], hl, hn0, upd_same, fun d nd ne => ⟨rfl, d, putX fl vs, upd_same, by rw [upd_ne ne, upd_same], ?_, ?_⟩⟩⟩
    · rw [upd_ne ne] at nd; exact nd
    · have nd1 : H1 d = none := by rw [upd_ne ne] at nd; exact nd
      have e : upd (del (upd (upd (upd H1 a (exo a (G.cls cn) none)) d (exd d (putX fl vs))) a (exo a (G.cls cn) (some d))) a) d (.xd (putX fl vs)) = upd H1 d (.xd (putX fl vs)) := by
        funext b
        by_cases y : b = d
        · subst y; rw [upd_same, upd_same]
        · rw [upd_ne y, upd_ne y]
          by_cases y2 : b = a
          · subst y2; rw [del_same, na]
          · rw [del_ne y2, upd_ne y2, upd_ne y, upd_ne y2]
      rw [e]
      have st : Step ρ1 H1 ρ1 (upd H1 d (.xd (putX fl vs))) := Step.lay nd1
      exact q ρ1 _ σ (some d) st (h1.lay nd1) ((hs.step s1).step st) (.inr ⟨d, vs.reverse, rfl, (RelWs.rev rs).step st, by rw [T.fr]; simp [hl], by rw [upd_same, T.fr, zip_rev hl], h1.cold nd1⟩)
  · rw [if_neg z] at q; exact q.elim
end
end Mp
set_option Elab.async false
set_option linter.all false
set_option maxRecDepth 100000
set_option maxHeartbeats 4000000
namespace Mp
open PySem PySem.Spec PyProof.Rows L2
section
variable {X : Cx} {pins : List (Addr × Obj)} {σ : L2.St} {H : Hp} {s : Shared}
/-- a pinned exception is told of from here on -/
theorem track {a : Addr} {oe : Obj} {vs : Array Value} {cls : Value} {d : Option Addr} (I : Inv X ((a, oe) :: pins) σ H s) (hz : Zc cls d oe) (hd : oe.data = .fields vs) (hfr : ∀ b o, X.s_0.heap.get? b = some o → b ∉ X.ex → b ≠ a)
    (hpn : ∀ p ∈ X.pn ++ pins, p.1 ≠ a) : Inv X pins σ (upd H a (exv a cls d)) s := by
  obtain ⟨ha, na, nL, nF, nC⟩ := I.pin (a, oe) (List.mem_append_right _ List.mem_cons_self)
  simp only at ha na nL nF nC
  have ne : ∀ {b : Addr} {o : HO}, H b = some o → b ≠ a := fun {b o} q z => by rw [z, na] at q; cases q
  refine ⟨I.ok, I.os, I.bare, ⟨I.base.keep, I.base.slot, fun b o q n hx => ?_, I.base.there, fun b xs q => ?_, fun b o u q => ?_, fun b ps q => ?_⟩, I.loc, I.cell, ?_, fun x c q => ?_, fun p hp => ?_, fun b o q => ?_, I.len⟩
  · rw [upd_ne (hfr b o q hx)]; exact I.base.free b o q n hx
  · have := I.base.tups b xs q; rw [upd_ne (ne this)]; exact this
  · have := I.base.frzs b o u q; rw [upd_ne (ne this)]; exact this
  · obtain ⟨more, h⟩ := I.base.tbls b ps q; exact ⟨more, by rw [upd_ne (ne h)]; exact h⟩
  · rw [upd_ne (fun z => nL z.symm)]; exact I.free
  · rw [upd_ne ?_]
    · exact I.freeC x c q
    · rintro rfl
      obtain ⟨v, hv⟩ := I.cell x _ q
      obtain ⟨o, ho, hc⟩ := (show ∃ o, s.heap.get? c = some o ∧ o.data = .cell v from by first | exact hv | (obtain ⟨o, h1, h2⟩ := hv; exact ⟨o, h1, h2⟩) | exact ⟨_, hv, rfl⟩)
      rw [ha] at ho; cases ho
      exact nC v hc
  · obtain ⟨e1, e2, e3⟩ := I.pin p (by
      rcases List.mem_append.mp hp with h | h
      · exact List.mem_append_left _ h
      · exact List.mem_append_right _ (List.mem_cons_of_mem _ h))
    exact ⟨e1, by rw [upd_ne (hpn p hp)]; exact e2, e3⟩
  · by_cases hb : b = a
    · subst hb
      rw [upd_same] at q
      cases q
      refine ⟨⟨oe, vs, ha, hz.1, hz.2, hd⟩, ⟨oe, ha⟩, fun h1 h2 z k => ?_⟩
      obtain ⟨o1, v1, g1, g2, g3, g4⟩ := z
      exact ⟨o1, v1, k _ g1, g2, g3, g4⟩
    · rw [upd_ne hb] at q
      exact (I.hok b o q).stay (fun c v hc z => z) (fun c hc => by rw [upd_ne (ne hc)]; exact hc) (fun c xs hc => by rw [upd_ne (ne hc)]; exact hc)
/-- pins of the context that are behind become pins of one's own -/
theorem pinned {a : Addr} {oe : Obj} (ok : X.Ok) (I : Inv (X.suite a ((a, oe) :: (X.pn ++ pins))) [] σ H s) : Inv X ((a, oe) :: pins) σ H s where
  ok := ok
  os := I.os
  bare := I.bare
  base := I.base
  loc := I.loc
  cell := I.cell
  free := I.free
  freeC := I.freeC
  hok := I.hok
  len := I.len
  pin p hp := I.pin p (by
    show p ∈ ((a, oe) :: (X.pn ++ pins)) ++ []
    simp only [List.mem_append, List.mem_cons, List.not_mem_nil] at hp ⊢
    rcases hp with h | h | h <;> simp [h])
/-- what a body without an exception leaves -/
theorem offTry {xe : Value → Shared → Prop} {D : Ends} (ok : X.Ok) : ∀ {f : Flow}, SP (X.tr (X.pn ++ pins) xe) [] D f s → SP X pins D f s
  | .next, ⟨_, _, I, q⟩ | .brk, ⟨_, _, I, q⟩ | .cont, ⟨_, _, I, q⟩ => ⟨_, _, I.ofTry ok, q⟩
  | .ret _, ⟨_, _, _, I, r⟩ => ⟨_, _, _, I.ofTry ok, r⟩
end
/-- an exception a that came down in s: its class, its dict, and the state sI without it -/
structure Down (X : Cx) (pins : List (Addr × Obj)) (B : Heap) (sI : Shared) (a : Addr) (cls : Value) (d : Option Addr) (σ : L2.St) (H : Hp) (s : Shared) : Prop where
  inv : Inv X pins σ H sI
  out : ∀ b o, sI.heap.get? b = some o → b ∉ frs X.stack → B.get? b = some o
  fly : HandSPX.FlyingZ B X.stack a (Zc cls d) s.heap
  grow : sI.heap.UpToSlots s.heap
  new : H a = none
  os : s.os = sI.os
  gens : AllBare s.gens
namespace Down
variable {X : Cx} {pins : List (Addr × Obj)} {B : Heap} {sI s : Shared} {a : Addr} {cls : Value} {d : Option Addr} {σ : L2.St} {H : Hp}
theorem here (D : Down X pins B sI a cls d σ H s) : Inv X pins σ H s := D.inv.landed D.out D.fly.1 D.grow D.os D.gens
theorem on (D : Down X pins B sI a cls d σ H s) {h : Heap} (f : HandSPX.FlyingZ B X.stack a (Zc cls d) h) (u : s.heap.UpToSlots h) : Down X pins B sI a cls d σ H { s with heap := h } :=
  { D with fly := f, grow := D.grow.trans u }
/-- it is no frame -/
theorem off (D : Down X pins B sI a cls d σ H s) : a ∉ frs X.stack := by
  intro m
  have ⟨_, o, g, no⟩ := D.fly.2.2.1.mem m
  have ⟨_, _, g', _, dt⟩ := D.fly.there
  exact no _ (Option.some.inj (g.symm.trans g') ▸ dt)
theorem fresh (D : Down X pins B sI a cls d σ H s) : sI.heap.get? a = none :=
  Option.eq_none_iff_forall_ne_some.mpr fun o g => nomatch (D.out a o g D.off).symm.trans D.fly.2.1
theorem sides (D : Down X pins B sI a cls d σ H s) (hs : X.stack = X.env :: X.outer) (hf : X.env.frame = some X.env.locals) : a ≠ X.env.locals ∧ a ∉ X.fs := by
  have m := D.off
  have e : frs X.stack = X.env.locals :: frs X.outer := by rw [hs]; unfold frs; rw [List.filterMap_cons, hf]
  rw [e] at m
  exact not_or.mp fun z => m (List.mem_cons.mpr z)
/-- the state that the suite of a clause begins with -/
theorem within (D : Down X pins B sI a cls d σ H s) (hs : X.stack = X.env :: X.outer) (hf : X.env.frame = some X.env.locals) :
    ∃ oe vs, Zc cls d oe ∧ oe.data = .fields vs ∧ Inv (X.suite a ((a, oe) :: (X.pn ++ pins))) [] σ H s := by
  have ⟨oe, vs, g, z, dt⟩ := D.fly.there
  have n := D.sides hs hf
  exact ⟨oe, vs, z, dt, D.here.suite g dt D.new n.1 n.2⟩
/-- no clause is left: up again -/
theorem again (D : Down X pins B sI a cls d σ H s) {W : WX} {E : Ends} (hs : X.stack = X.env :: X.outer) (hf : X.env.frame = some X.env.locals) (tk : Takes X W) (w : W cls d σ H) :
    wpAny (model X.prog X.w) X.A (handleBy (.ref a) X.env []) (SP X pins E) X.xe s := by
  have up : wpAny (model X.prog X.w) X.A (setFlight (.ref a) (some X.env.locals)) (fun _ s4 => wpAny (model X.prog X.w) X.A (throw (.ref a) : Sem Flow) (SP X pins E) X.xe s4) X.xe s :=
    HandSPX.setFlight_upZ D.fly fun _ hh u => wpAny_throw (tk _ _ ⟨a, B, sI, pins, σ, H, cls, d, rfl, D.inv, D.out, D.grow.trans u, Or.inr (Or.inr hh), D.new, D.os, D.gens, w⟩)
  have ⟨_, _, _, _, _, T, _, _, g, _, dt, g1, _⟩ := D.fly
  apply wpAny_handleBy_nil
  simp only [PySem.passOn, hf]
  refine wpAny_bind (wpAny_field g dt g1 ?_)
  have e : ((Value.ref T == Value.none) = true) = False := by simp
  simp only [e, if_false]
  first
    | exact wpAny_bind up
    | exact wpAny_bind (wpAny_pure (wpAny_bind up))
end Down
/-- the class of a clause is looked up -/
theorem clsAt {Y : Cx} {pins : List (Addr × Obj)} {σ : L2.St} {H : Hp} {s : Shared} {x : Str} {c : Value} {np : Pos} (hc : Names Y x c) (I : Inv Y pins σ H s) {Q E : Value → Shared → Prop} (q : Q c s) : wpAny (model Y.prog Y.w) Y.A (eval (.Name x np) Y.env) Q E s :=
  match hc with
  | ⟨g, nd, .inl m⟩ => ld_glob I g m q nd
  | ⟨g, nd, .inr ⟨m, bb, nn⟩⟩ => ld_blt I g m bb q nn nd
/-- what the clause wishes, that puts the exception somewhere -/
def wKeep (K : PySem.W.Frag) (c : Value) (i : Nat) (ts : Addr → Value → Option Addr → TS) (Wout : WX) (D : Ends) : WX := fun cls d σ H =>
  ∃ b, PySem.W.exmOne K cls c = some b ∧ (b = true → ∀ a, H a = none → ts a cls d { nx := fun σ' H' => H' a = none → D.nx (σ'.set i none) (upd H' a (exv a cls d)), rt := fun _ _ => False, bk := fun _ _ => False, ct := fun _ _ => False } (σ.set i (some (.ref a))) H) ∧
    (b = false → Wout cls d σ H)
section
variable {X : Cx} {x n : Str} {c : Value} {i : Nat} {body suite : List Stmt} {b₀ : Stmt} {np pos pos' : Pos} {tb : WX → TS} {ts : Addr → Value → Option Addr → TS} {Wout : WX}
/-- try: .. except x as n: .., where the suite puts the exception somewhere and goes on behind the try: told of from there on -/
theorem ps_try_keep (hs : X.stack = X.env :: X.outer) (hf : X.env.frame = some X.env.locals) (hN : X.N.Nodup) (hi : X.N[i]? = some n) (hln : X.env.kindOf n = some .local) (hc : Names X x c) (tk : Takes X Wout)
    (hb : ∀ (W : WX) (pn : List (Addr × Obj)) (xe : Value → Shared → Prop), Takes (X.tr pn xe) W → PassesOwn (model X.prog X.w) X.A X.env xe → PSs (X.tr pn xe) body (tb W))
    (hsu : ∀ (a : Addr) (oe : Obj) (cls : Value) (d : Option Addr) (pn : List (Addr × Obj)), Zc cls d oe → (∃ vs, oe.data = .fields vs) → PSs (X.suite a ((a, oe) :: pn)) (b₀ :: suite) (ts a cls d)) :
    PS X (.Try body [.ExceptHandler (some (.Name x np)) (some n) (b₀ :: suite) pos'] [] [] pos) (fun D σ H => tb (wKeep X.K c i ts Wout D) D σ H) where
  run pins s σ H D I h := by
    have quiet := I.ok
    apply wpAny_Try_except
    refine wpAny_mono ((hb (wKeep X.K c i ts Wout D) _ _ ?caught PassesOwn.looking).run [] s σ H D (I.toTry _) h) ?_ fun _ _ z => z
    case caught =>
      rintro _ s' ⟨a, B, sI, _, σ', H', cls, d, rfl, J, out, grow, sky, new, os, gens, b, hit, yes, no⟩
      rw [show (X.tr (X.pn ++ pins) _).stack = X.env :: X.outer from hs] at sky
      refine Sky.land (outer := X.outer) (Q := fun _ s₃ => wpAny (model X.prog X.w) X.A (handleBy (.ref a) X.env [.ExceptHandler (some (.Name x np)) (some n) (b₀ :: suite) pos']) (SP X pins D) X.xe s₃) Zc.steady (by rw [quiet.frames, hs]) hf sky fun h3 f3 u3 => ?_
      have C : Down X pins B sI a cls d σ' H' { s' with heap := h3 } := ⟨J.ofTry quiet, out, by rw [hs]; exact f3, grow.trans u3, new, os, gens⟩
      have ⟨oe, vs, z, dt, S⟩ := C.within hs hf
      have looks : PySem.W.Looks (model X.prog X.w) h3 (typeOf (.ref a)) cls := fun _ _ _ _ k q => by
        have ⟨o, _, g, zo, _⟩ := f3.there
        exact wpAny_typeOf_ref (k _ _ g) (zo.1 ▸ q)
      refine wpAny_handleBy_cons (codeAny_handlers_test ?_) (fun q => nomatch q)
      refine clsAt (Y := X.suite a ((a, oe) :: (X.pn ++ pins))) hc S ((PySem.W.exm_one (M := model X.prog X.w) C.here.kIn looks hit).here ?_)
      match b, yes, no with
      | false, _, no => exact C.again hs hf tk (no rfl)
      | true, yes, _ =>
        apply codeAny_handlers_suite_as
        have fly : HandSPX.FlyingZ B X.stack a (Zc cls d) h3 := C.fly
        refine HandSPX.lands_againZ fly fun h4 f4 u4 => ?_
        have C := C.on f4 u4
        have ⟨oe, vs, z, dt, S⟩ := C.within hs hf
        refine store_ok (X := X.suite a _) (v := .ref a) S hN hi (.inl hln) rfl (fun s5 S5 => ?_) (.inr hln)
        refine wpAny_mono ((hsu a oe cls d _ z ⟨vs, dt⟩).run [] s5 _ H' _ S5 (yes rfl a new)) ?_ fun _ _ z => z.elim
        intro f s6 r
        match f, r with
        | .next, ⟨σ6, H6, S6, w⟩ =>
          have T := pinned quiet S6
          have none6 : H6 a = none := (T.pin (a, oe) (by simp)).2.1
          have apart : ∀ b o, X.s_0.heap.get? b = some o → b ∉ X.ex → b ≠ a := by
            rintro b o g hx rfl
            have ⟨_, g'⟩ := C.inv.base.there b o g hx
            exact nomatch g'.symm.trans C.fresh
          have other : ∀ p ∈ X.pn ++ pins, p.1 ≠ a := by
            rintro p hp rfl
            exact nomatch (C.inv.pin p hp).1.symm.trans C.fresh
          exact gone_ok T hN hi hln fun _ J7 => ⟨_, _, track J7 z dt apart other, w none6⟩
        | .brk, ⟨_, _, _, w⟩ | .cont, ⟨_, _, _, w⟩ => exact w.elim
        | .ret _, ⟨_, _, _, _, _, w⟩ => exact w.elim
    intro f s1 r
    have r := offTry quiet r
    cases f with
    | next => exact wpAny_execs_nil r
    | _ => exact r
end
end Mp
set_option Elab.async false
set_option linter.all false
set_option maxRecDepth 100000
set_option maxHeartbeats 4000000
namespace Mp
open PySem PySem.Spec PyProof.Rows L2
/-- what is known of class c as an exception's class -/
structure XcF (G : Gb) (c : Nat) : Prop where
  ec : L2.ExcC G.K (G.cls c)
  xf : XfC G.K (G.cls c)
  no : ∀ f ∈ G.flds c, PySem.W.findIn G.K (.ref (G.cls c)) f = some none
  nd : (G.flds c).Nodup
section
variable {X : Cx} {G : Gi} {Wx : WX} {a b c e o : Expr} {fa fb fc : EM} {pos pos' p p2 apos : Pos} {es : List Expr} {fs : AM} {ta tb : TM} {x f m : Str} {k : Nat}
/-- the object of a kept exception -/
theorem exc_inst {pins : List (Addr × Obj)} {σ : L2.St} {H : Hp} {s : Shared} {ρ : Rho} {cn : Nat} {ws : List W} {y : V} (I : Inv X pins σ H s) (r : RelW G ρ H (.exc cn ws) y) :
    ∃ a ox od, y = .ref a ∧ PySem.W.InstAt s.heap a ox (G.cls cn) od ∧ ((G.flds cn = [] ∧ ws = [] ∧ od = none) ∨ ∃ d0 xs mA o, od = some o ∧ s.heap.get? d0 = some o ∧ RelWs G ρ H ws xs ∧ xs.length = (G.flds cn).length ∧ s.heap.Ns1 d0 mA ∧ ∀ g, RelO (((G.flds cn).zip xs).lookup g) (mA g)) := by
  obtain ⟨a, d, rfl, _, ha, hd⟩ := r
  obtain ⟨⟨ox, vs, h1, h2, h3, h4⟩, _⟩ := (show ObjOk X.prog X.w H s.heap a (exv a (.ref (G.cls cn)) d) from I.hok a _ ha)
  have hnc : PySem.W.notCls ox = true := by unfold PySem.W.notCls; rw [h4]
  rcases hd with ⟨e1, e2, e3⟩ | ⟨d0, xs, e1, rs, hl, e2, _⟩
  · subst e3
    exact ⟨a, ox, none, rfl, ⟨h1, h2, hnc, by rw [h3]; exact trivial⟩, .inl ⟨e1, e2, rfl⟩⟩
  · subst e1
    obtain ⟨mA, hns, hr⟩ := (show ObjOk X.prog X.w H s.heap d0 (.xd ((G.flds cn).zip xs)) from I.hok d0 _ e2)
    obtain ⟨o, ho, _⟩ := lookIn_ns hns
    exact ⟨a, ox, some o, rfl, ⟨h1, h2, hnc, by rw [h3]; exact ho⟩, .inr ⟨d0, xs, mA, o, rfl, ho, rs, hl, hns, hr⟩⟩
@[simp] def isiX (n : Nat) (xc : Nat → Bool) (sub : Nat → Nat → Bool) : BM := fun vs S => match vs with
  | [.exc c _, u] => if xc c = true then (match isiK n sub (.c c) u with
    | some r => .ok (.bl r) S
    | none => .stuck) else .stuck
  | _ => .stuck
theorem isiK_ok {n sub c u r ρ H y} (T : KitT G n sub) (e : isiK n sub (.c c) u = some r) (ru : RelW G ρ H u y) : ∃ w, ClsV y w ∧ PySem.W.kitOne G.K (.ref (G.cls c)) w = some r := by
  cases u with
  | ty b =>
    cases ru
    simp only [isiK] at e
    by_cases z : (tyNs.contains b && decide (c < n)) = true
    · rw [if_pos z] at e
      cases e
      simp only [Bool.and_eq_true, decide_eq_true_eq, List.contains_iff_mem] at z
      exact ⟨.type b, .ty b, T.k2 c z.2 b z.1⟩
    · rw [if_neg z] at e; cases e
  | glo d =>
    cases ru
    simp only [isiK] at e
    by_cases z1 : c < n
    · rw [if_pos z1] at e
      by_cases z : d < n
      · rw [if_pos z] at e
        cases e
        exact ⟨.ref (G.glo d), .own _, by rw [T.gl d z]; exact T.k3 c z1 d z⟩
      · rw [if_neg z] at e; cases e
    · rw [if_neg z1] at e; cases e
  | _ => cases e
theorem c_isiX {n xc sub} (hK : G.K = X.K) (T : KitT G n sub) (TX : ∀ c, xc c = true → XcF G c) : CallR X (.builtin "isinstance") (upC G (isiX n xc sub)) := by
  rintro pins s σ H xs us Q I r ⟨ρ, vs, S, rv, hh, hp⟩
  cases vs with
  | nil => exact hp.elim
  | cons v vs =>
    cases vs with
    | nil => cases v <;> exact hp.elim
    | cons u vs =>
      cases vs with
      | cons _ _ => cases v <;> exact hp.elim
      | nil =>
        cases v with
        | exc c fs =>
          have hp : Post G ρ H (if xc c = true then (match isiK n sub (.c c) u with | some r => .ok (.bl r) S | none => .stuck) else .stuck) (QW G Q) NoE := hp
          by_cases z : xc c = true
          · rw [if_pos z] at hp
            cases q2 : isiK n sub (.c c) u with
            | none => rw [q2] at hp; exact hp.elim
            | some b =>
              rw [q2] at hp
              obtain ⟨x, y, rfl, r1, r2⟩ := rel2 rv
              obtain ⟨w1, w2, rfl, rx, ry⟩ := vals2 r
              obtain ⟨cv, hcv, hk⟩ := isiK_ok T q2 r2
              obtain rfl := hcv.eq ry
              obtain ⟨a, ox, od, rfl, J, _⟩ := exc_inst I r1
              obtain rfl : w1 = Value.ref a := rx
              have C := (TX c z).ec
              rw [hK] at C hk
              exact PySem.W.kia_one (PySem.W.kitx_exc (PySem.W.mp_there C.hd) C.hg C.hk C.hs C.ha C.hn C.ht C.hm) I.kIn J hk (fun z => nomatch z) fun tk => ⟨.bl b, H, I.tok tk, rfl, hp ρ H .refl hh _ rfl⟩
          · rw [if_neg z] at hp; exact hp.elim
        | _ => exact hp.elim
@[simp] def elsB (f g : BM) : BM := fun vs S => match f vs S with
  | .stuck => g vs S
  | r => r
theorem c_els {fv : Value} {f g : BM} (p : CallR X fv (upC G f)) (q : CallR X fv (upC G g)) : CallR X fv (upC G (elsB f g)) := CallR.imp (fun xs H Q ⟨ρ, vs, S, rv, hh, hp⟩ => by
  simp only [elsB] at hp
  cases e : f vs S with
  | stuck => rw [e] at hp; exact .inr ⟨ρ, vs, S, rv, hh, hp⟩
  | ok w S1 => rw [e] at hp; exact .inl ⟨ρ, vs, S, rv, hh, by rw [e]; exact hp⟩
  | exc c fs S1 => rw [e] at hp; exact .inl ⟨ρ, vs, S, rv, hh, by rw [e]; exact hp⟩) (CallR.or p q)
@[simp] def isiA (n : Nat) (xc : Nat → Bool) (sub : Nat → Nat → Bool) : BM := elsB (isiW n sub) (isiX n xc sub)
theorem c_isiA {n xc sub} (hK : G.K = X.K) (T : KitT G n sub) (TX : ∀ c, xc c = true → XcF G c) : CallR X (.builtin "isinstance") (upC G (isiA n xc sub)) := c_els (c_isi hK T) (c_isiX hK T TX)
/-! ### error.f -/
@[simp] def atX (tab : Nat → At) (xt : Nat → Option Nat) (v : W) : M W := fun S => match v with
  | .exc c fs => match xt c with
    | some i => match fs[i]? with
      | some w => .ok w S
      | none => .stuck
    | none => .stuck
  | v => atV tab v S
@[simp] def eAx (tab : Nat → At) (xt : Nat → Option Nat) (f : EM) : EM := fun ls S => (f ls S).bind fun v S1 => atX tab xt v S1
theorem e_ax {tab : Nat → At} {xt : Nat → Option Nat} (tk : Takes X Wx) (hK : G.K = X.K) (hr : Rm (k + 1) X.A) (T : ∀ c, AtOk X.prog X.w X.mg X.base G k f c (tab c)) (TX : ∀ c i, xt c = some i → XcF G c ∧ (G.flds c)[i]? = some f) (he : PE X e (upE G Wx fa)) (hb : attributeBase e f X.env (eval e X.env) = eval e X.env := by rfl) : PE X (.Attribute e f pos) (upE G Wx (eAx tab xt fa)) := by
  refine ⟨fun pins s σ H Q I ⟨ρ, ls, S, hs, hh, hp⟩ => ?_⟩
  refine attr_of hb (thn (he.run pins s σ H (fun x H1 => ∃ ρ1 v S1, RelW G ρ1 H1 v x ∧ RelH G ρ1 H1 S1 ∧ Post G ρ1 H1 (atX tab xt v S1) (QW G Q) fun c d H' => Wx c d σ H') I ⟨ρ, ls, S, hs, hh, (Post.bind hp).mono fun v S1 ρ1 H1 s1 h1 q x rx => ⟨ρ1, v, S1, rx, h1, q⟩⟩) fun u s1 ⟨x, H1, I1, ru, ρ1, v, S1, rx, h1, q⟩ => ?_)
  cases v with
  | exc c fs =>
    simp only [atX] at q
    cases q1 : xt c with
    | none => rw [q1] at q; exact q.elim
    | some i =>
      rw [q1] at q
      simp only at q
      cases q3 : fs[i]? with
      | none => rw [q3] at q; exact q.elim
      | some w =>
        rw [q3] at q
        obtain ⟨xcf, hf⟩ := TX c i q1
        have hi : i < fs.length := (List.getElem?_eq_some_iff.mp q3).1
        obtain ⟨a, ox, od, rfl, J, z⟩ := exc_inst I1 rx
        obtain rfl : u = Value.ref a := ru
        rcases z with ⟨_, z, _⟩ | ⟨d0, xs, mA, o, rfl, ho, rs, hl, hns, hr'⟩
        · subst z; simp at q3
        · obtain ⟨y, hy, ry⟩ := rs.get q3
          obtain ⟨o2, ho2, hlk⟩ := lookIn_ns hns
          rw [ho] at ho2; cases ho2
          have hlen : xs.length = (G.flds c).length := hl
          have hlu : ((G.flds c).zip xs).lookup f = some y := by
            have := lookup_zip (n := (G.flds c).length) xcf.nd hf (List.getElem?_eq_some_iff.mp hf).1 hy
            rw [List.take_of_length_le (Nat.le_refl _)] at this
            exact this
          obtain ⟨u, hu, ru⟩ := RelO.some_of (v := y) (o := mA f) (by rw [← hlu]; exact hr' f)
          have no := xcf.no f (List.mem_of_getElem? hf)
          have xf := xcf.xf
          rw [hK] at no xf
          exact HandSPX.exc_get I1.kIn J xf.ga xf.gg xf.exC (PySem.W.findObj_own xf.hdC no rfl (by rw [hlk, hu])) (handed_of ru) ⟨y, H1, I1.tok _, ru, q ρ1 H1 .refl h1 y ry⟩
  | _ => exact at_ok tk hK hr T I1 ru rx h1 q
/-! ### try .. except C as n: c = n -/
@[simp] def sTry (m : SM) (sub : Nat → Option Bool) (i j : Nat) : SM := fun ls S => match m ls S with
  | .exc c fs ls' S' => match sub c with
    | some true => if i < ls'.length then .nx (((ls'.set i none).set j (some (.exc c fs))).set i none) S' else .stuck
    | some false => .exc c fs ls' S'
    | none => .stuck
  | r => r
theorem RelS.gone {ρ H ls σ} (h : RelS G ρ H ls σ) (i : Nat) (y : Option V) : RelS G ρ H (ls.set i none) (σ.set i y) := by
  refine ⟨by simp [h.1], fun j u e => ?_⟩
  by_cases hj : i = j
  · subst hj
    rcases Nat.lt_or_ge i ls.length with q | q
    · rw [List.getElem?_set_self q] at e; cases e
    · rw [List.getElem?_eq_none (by simpa using q)] at e; cases e
  · rw [List.getElem?_set_ne hj] at e ⊢
    exact h.2 j u e
theorem s_try {n x c : Str} {i j C : Nat} {body : List Stmt} {np pos' p3 p4 p5 : Pos} {m1 : SM} {sub : Nat → Option Bool} (hK : G.K = X.K) (hN : X.N.Nodup) (hi : X.N[i]? = some n) (hj : X.N[j]? = some c) (hij : i ≠ j) (hln : X.env.kindOf n = some .local) (hlc : X.env.scope.names.lookup c = some .local) (hnv : X.env.scope.names.lookup n = some .local)
    (hg : Gl X x) (hm : X.mg x = some (.ref (G.cls C))) (T : ∀ d b, sub d = some b → PySem.W.exmOne G.K (.ref (G.cls d)) (.ref (G.cls C)) = some b) (tk : Takes X Wx)
    (hb : ∀ (W : WX) (pn : List (Addr × Obj)) (xe : Value → Shared → Prop), Takes (X.tr pn xe) W → PassesOwn (model X.prog X.w) X.A X.env xe → PSs (X.tr pn xe) body (upS G W m1))
    (hs : X.stack = X.env :: X.outer := by rfl) (hf : X.env.frame = some X.env.locals := by rfl) (hdb : (x == ("__debug__" : Str)) = false := by decide)
    (hsw : ∀ (env : Env), swapsWith (.Name n p4) (some (.Name c p3)) p5.line env = pure false := by intro _; rfl) (hndb : (n == ("__debug__" : Str)) = false := by decide) (hncd : (n == ("__classdict__" : Str)) = false := by decide) :
    PS X (.Try body [.ExceptHandler (some (.Name x np)) (some n) [.Assign [.Name c p3] (.Name n p4) p5] pos'] [] [] pos) (upS G Wx (sTry m1 sub i j)) := by
  refine PS.imp ?_ (ps_try_keep (tb := fun W => upS G W m1) (ts := fun a cls d => tAsg (tVar i) (gName j)) (c := .ref (G.cls C)) hs hf hN hi hln ⟨hg, hdb, .inl hm⟩ tk hb ?_)
  · rintro D σ H ⟨ρ, ls, S, hrs, hh, hp⟩
    refine ⟨ρ, ls, S, hrs, hh, ?_⟩
    simp only [sTry] at hp
    cases q : m1 ls S with
    | nx ls' S' => rw [q] at hp; exact hp
    | rt v S' => rw [q] at hp; exact hp
    | bk ls' S' => rw [q] at hp; exact hp
    | ct ls' S' => rw [q] at hp; exact hp
    | stuck => rw [q] at hp; exact hp
    | exc cn fs ls' S' =>
      rw [q] at hp
      intro ρ' H' σ' d st h' s' hx
      simp only at hp
      cases q2 : sub cn with
      | none => rw [q2] at hp; exact hp.elim
      | some b =>
        rw [q2] at hp
        refine ⟨b, by rw [← hK]; exact T cn b q2, fun eb a na => ?_, fun eb => ?_⟩
        · subst eb
          simp only at hp
          by_cases hlt : i < ls'.length
          · rw [if_pos hlt] at hp
            refine ⟨.ref a, by rw [List.getElem?_set_self (by rw [← s'.1]; exact hlt)], fun _ => ?_⟩
            have st2 : Step ρ' H' ρ' (upd H' a (exv a (.ref (G.cls cn)) d)) := Step.lay na
            have rx : RelW G ρ' (upd H' a (exv a (.ref (G.cls cn)) d)) (.exc cn fs) (.ref a) := by
              refine ⟨a, d, rfl, h'.cold na, upd_same, ?_⟩
              rcases hx with hx | ⟨d0, xs, e1, rs, hl, hd, c0⟩
              · exact .inl hx
              · exact .inr ⟨d0, xs, e1, rs.step st2, hl, st2.keep d0 _ hd c0, st2.cold hd c0⟩
            exact hp ρ' _ _ (st.trans st2) (h'.lay na) ((((s'.step st2).gone i _).set rx j).gone i none)
          · rw [if_neg hlt] at hp; exact hp.elim
        · subst eb
          exact hp ρ' H' σ' d st h' s' hx
  · intro a oe cls d pn hz hv
    exact pss_one (ps_set (X := X.suite a ((a, oe) :: pn)) hN hj (.inl hlc) (pe_var hi (.inl hnv) hndb hncd) (hsw _) (.inr hlc))
end
end Mp
set_option Elab.async false
set_option linter.all false
set_option maxRecDepth 100000
set_option maxHeartbeats 4000000
namespace Mp
open PySem PySem.Spec PyProof.Rows L2 LamX
/-! ### f(lambda: e): the def f calls what it got -/
section
variable {X : Cx} {pins : List (Addr × Obj)} {σ : L2.St} {H : Hp} {s : Shared}
/-- a call whose promise is told ends where its expression ends -/
theorem landCall {W : WX} {u : Value} {us : List Value} {Q : VK} (tk : Takes X W) (I : Inv X pins σ H s) (c : codeAny (model X.prog X.w) X.A (.call u ⟨us, []⟩) (CR (L2.CX X.prog X.w) X.stack X.prog X.w H s Q fun cls d H' => W cls d σ H') s) :
    wpAny (model X.prog X.w) X.A (call u us) (EP X pins σ Q) X.xe s :=
  wpAny_call (codeAny_mono c fun
    | .error e, s', q => passAt tk σ pins H s e s' I q
    | .ok (.ret _), _, q => I.after q
    | .ok .next, _, q | .ok .brk, _, q | .ok .cont, _, q => False.elim q)
/-- what the lambda at f does when it is called, at a later state of the frames outer -/
theorem lam_runs {A : Around} {outer : List Env} {s1 : Shared} {HZ : Hp} {Q : VK} {E : XK} {tb : TE} {f c' : Addr} {pm ctv : Value} {params : Arguments} {body : Expr} {scope : Scope} {k : Nat}
    (I : Inv X pins σ H s) (L : LamS X.env.scope scope) (e0 : Env0 X.prog X.w X.K X.mg X.base A outer s1 HZ) (un : Un (frs X.stack) [] H HZ s.heap s1.heap) (nl : s1.heap.NoLimit) (hr : Rm (k + 1) A)
    (g : s1.heap.get? f = some (PySem.W.kla_obj "<lambda>" (X.env.qual ++ "<lambda>") params body scope (cloFrom X.env.cells scope.names []) pm c' ctv))
    (none_ : bindArgs (PySem.W.kla_fn "<lambda>" (X.env.qual ++ "<lambda>") params body scope (cloFrom X.env.cells scope.names []) pm (.ref c') ctv) ⟨[], []⟩ = pure [])
    (code : HZ c' = some (CodeO c' (X.env.qual ++ "<lambda>"))) (does : Rm k (A.deeper (lamEnv X scope s1.heap.objs.size f c')) → PE (lamCx X A outer s1 HZ E scope f c') body tb) (told : tb σ HZ Q) :
    codeAny (model X.prog X.w) A (.call (.ref f) ⟨[], []⟩) (CR (L2.CX X.prog X.w) outer X.prog X.w HZ s1 Q E) s1 := by
  have rec_ : s1.heap.CodeRec (.ref c') (X.env.qual ++ "<lambda>") := by
    have ⟨oc, vs, t, at_, fl, nm⟩ := (e0.hok c' _ code).1
    exact ⟨c', oc, vs, t, rfl, at_, fl, nm⟩
  apply PySem.W.kla_callFunE hr.rm.depth g rfl L.co L.gen rfl rec_
  simp only [show bindArgs _ _ = _ from none_]
  apply wpAny_pure
  refine wpAny_newFunctionEnv (fun y hy => (L.own y hy).2) (fun _ z => nomatch z) (fun h₁ ns same => ⟨nl.fresh _ same, ?_⟩) L.kind
  have stays : ∀ b o, s1.heap.get? b = some o → h₁.get? b = some o := fun b o e => same.extBut b o (Nat.ne_of_lt (Heap.lt_size e)) (Heap.get?_push_of_some _ e)
  exact PySem.W.kla_codeExpr (wpAny_mono ((does (hr.deeper _)).run [] _ σ HZ Q (lam_start2 I L e0 hr.rm.hd un ns stays) told) (fun _ _ ⟨w, H2, J, q⟩ => ⟨w, H2, J.os, J.bare, J.base, J.hok, q⟩) fun _ _ q => q)
/-- ask() in the def that got the lambda; what flies is told at the slots that stand there -/
theorem act2 {CXg : CXT} {Eg : XK} {Ng : List Str} {qg : Str} {sg : Scope} {g f c' : Addr} {cdg pm ctv : Value} {params : Arguments} {body : Expr} {scope : Scope} {k i : Nat} {a : Str} {pn : List (Addr × Obj)} {xe : Value → Shared → Prop} {W : WX} {tb : XK → TE} {p1 p2 : Pos}
    (I : Inv X pins σ H s) (L : LamS X.env.scope scope) (hf : s.heap.get? f = some (PySem.W.kla_obj "<lambda>" (X.env.qual ++ "<lambda>") params body scope (cloFrom X.env.cells scope.names []) pm c' ctv)) (hfn : H f = none) (hfr : f ∉ frs X.stack)
    (hbind : bindArgs (PySem.W.kla_fn "<lambda>" (X.env.qual ++ "<lambda>") params body scope (cloFrom X.env.cells scope.names []) pm (.ref c') ctv) ⟨[], []⟩ = pure [])
    (tk : Takes ((cxOf CXg X.prog X.w X.K X.mg X.base Ng qg sg g cdg X.A X.stack s H Eg).tr pn xe) W) (hr : Rm (k + 1) (X.A.deeper (envOfC qg sg s.heap.objs.size g cdg)))
    (hbody : ∀ (A : Around) (outer : List Env) (s : Shared) (H : Hp) (E : XK), Rm k (A.deeper (lamEnv X scope s.heap.objs.size f c')) → PE (lamCx X A outer s H E scope f c') body (tb E))
    (hN : Ng[i]? = some a) (hv : Vis sg a) (hd : (a == ("__debug__" : Str)) = false) (hcd : (a == ("__classdict__" : Str)) = false) :
    PE ((cxOf CXg X.prog X.w X.K X.mg X.base Ng qg sg g cdg X.A X.stack s H Eg).tr pn xe) (.Call (.Name a p1) [] [] p2)
      (fun σZ HZ Q => σZ[i]? = some (some (.ref f)) ∧ HZ c' = some (CodeO c' (X.env.qual ++ "<lambda>")) ∧ tb (fun cls d H' => W cls d σZ H') σ HZ Q) := by
  refine ⟨fun pinsZ sZ σZ HZ Q IZ ⟨slot, code, told⟩ => wpAny_Call_Name_kw ?_⟩
  refine thn ((pe_var (pos := p1) (i := i) hN hv hd hcd).run pinsZ sZ σZ HZ (fun v H1 => v = .ref f ∧ H1 = HZ) IZ ⟨_, slot, rfl, rfl⟩) ?_
  rintro _ s1 ⟨_, _, J, rv, rfl, rfl⟩
  cases rv
  have g := J.base.keep f _ hf hfn hfr List.not_mem_nil
  refine PySem.W.callWith_F0 ⟨_, _, _, _, g⟩ (landCall tk J ?_)
  exact lam_runs (X := X) (A := X.A.deeper (envOfC qg sg s.heap.objs.size _ cdg)) I L J.env0 J.base J.nolimit hr g hbind code (hbody _ _ _ _ _) told
end
/-! ### what holds besides, while the def runs -/
def askI (G : Gb) (ls : LSt) (σ : L2.St) (c : Addr) (q : Str) : Rho → Hp → Prop := fun ρ H => RelS G ρ H ls σ ∧ Cold ρ c ∧ H c = some (CodeO c q)
def Gi.plus (G : Gi) (ls : LSt) (σ : L2.St) (c : Addr) (q : Str) : Gi where
  toGb := G.toGb
  T := G.T
  inv := fun ρ H => G.inv ρ H ∧ askI G ls σ c q ρ H
  stab := fun s h => ⟨G.stab s h.1, h.2.1.step s, s.cold h.2.2.2 h.2.2.1, s.keep _ _ h.2.2.2 h.2.2.1⟩
section
variable {G : Gi} {ls : LSt} {σ : L2.St} {c : Addr} {q : Str} {ρ : Rho} {H : Hp} {S : Sto}
theorem plus_dn (h : RelH (G.plus ls σ c q) ρ H S) : RelH G ρ H S := ⟨h.inj, h.dmn, h.at_, h.hot, h.tabs, h.inv.1⟩
theorem plus_up (h : RelH G ρ H S) (i : askI G ls σ c q ρ H) : RelH (G.plus ls σ c q) ρ H S := ⟨h.inj, h.dmn, h.at_, h.hot, h.tabs, h.inv, i⟩
theorem post_up {α : Type} {r : Res α} {Q E} (h : Post G ρ H r Q E) : Post (G.plus ls σ c q) ρ H r Q E := by
  cases r with
  | ok a S' => exact fun ρ' H' t k => h ρ' H' t (plus_dn k)
  | exc cn fs S' => exact fun ρ' H' d t k => h ρ' H' d t (plus_dn k)
  | stuck => exact h
theorem post_dn {α : Type} {r : Res α} {Q E} (i : askI G ls σ c q ρ H) (h : Post (G.plus ls σ c q) ρ H r Q E) : Post G ρ H r Q E := by
  have st : ∀ {ρ' H'}, Step ρ H ρ' H' → askI G ls σ c q ρ' H' := fun s => ⟨i.1.step s, s.cold i.2.2 i.2.1, s.keep _ _ i.2.2 i.2.1⟩
  cases r with
  | ok a S' => exact fun ρ' H' t k => h ρ' H' t (plus_up k (st t))
  | exc cn fs S' => exact fun ρ' H' d t k => h ρ' H' d t (plus_up k (st t))
  | stuck => exact h
end
@[simp] def eAsk (f : Addr) (fm : M W) : EM := fun ls S => match ls[0]? with
  | some (some (W.adr a)) => if a = f then fm S else .stuck
  | _ => .stuck
@[simp] def eLam (heard : M W → M W) (fb : EM) : EM := fun ls S => heard (fun S' => fb ls S') S
section
variable {X : Cx} {G : Gi} {Wx : WX}
theorem e_lam {x a : Str} {g c P : Addr} {k m : Nat} {pg : Arguments} {bg : List Stmt} {sg : Scope} {fd : FuncData} {Ng : List Str} {heard : M W → M W} {hb : Addr → M W → SM} {fb : EM}
    {params : Arguments} {body : Expr} {scope : Scope} {p lpos pos : Pos} (tk : Takes X Wx) (F : FunD X.K x x pg bg sg [] [] g fd) (hg : Gl X x) (hm : X.mg x = some (.ref g)) (Sg : FnScope Ng [a] sg) (hNg : Ng.length = 1 + m) (hN0 : Ng[0]? = some a) (hva : Vis sg a)
    (hb1 : ∀ (kV doc pm : Value) (an : Option Addr) (cdv ct : Value) (us : List Value), us.length = 1 → bindArgs (PySem.W.fnOf x x pg bg sg .none kV doc pm an cdv ct) ⟨us, []⟩ = pure ([a].zip us))
    (conv : ∀ f fm S, runB (hb f fm (some (.adr f) :: List.replicate m none) S) = heard fm S)
    (hG : ∀ (cdv : Value) (f : Addr) (fm : M W) (s : Shared) (H : Hp) (E : XK) (G' : Gi), G'.toGb = G.toGb → Rm (k + 1) (X.A.deeper (envOfC x sg s.heap.objs.size g cdv)) →
      (∀ (W : WX) (pn : List (Addr × Obj)) (xe : Value → Shared → Prop) (p1 p2 : Pos), Takes ((cxOf (CX X.prog X.w) X.prog X.w X.K X.mg X.base Ng x sg g cdv X.A X.stack s H E).tr pn xe) W →
        PE ((cxOf (CX X.prog X.w) X.prog X.w X.K X.mg X.base Ng x sg g cdv X.A X.stack s H E).tr pn xe) (.Call (.Name a p1) [] [] p2) (upE G' W (eAsk f fm))) →
      PSs (cxOf (CX X.prog X.w) X.prog X.w X.K X.mg X.base Ng x sg g cdv X.A X.stack s H E) bg (upS G' (WxE E) (hb f fm)))
    (TB : TabB X.base X.mg c P) (hcode : X.env.code = .ref c) (hmT : (P, X.env.qual ++ "<lambda>") ∈ G.T) (hu : ∀ p ∈ G.T, p.1 = P → p.2 = X.env.qual ++ "<lambda>") (hr : Rm (k + 2) X.A) (L : LamS X.env.scope scope) (hdef : defaultsOf params X.env = ([], []))
    (hbind : ∀ (q : Str) (cl : List (Str × Addr)) (pm cv ctv : Value), bindArgs (PySem.W.kla_fn "<lambda>" q params body scope cl pm cv ctv) ⟨[], []⟩ = pure [])
    (hbody : ∀ (A : Around) (outer : List Env) (s : Shared) (H : Hp) (E : XK) (f c' : Addr), Rm k (A.deeper (lamEnv X scope s.heap.objs.size f c')) → PE (lamCx X A outer s H E scope f c') body (upE G (WxE E) fb))
    (hdb : (x == ("__debug__" : Str)) = false := by decide) (hd : (a == ("__debug__" : Str)) = false := by decide) (hcd : (a == ("__classdict__" : Str)) = false := by decide) :
    PE X (.Call (.Name x p) [.Lambda params body scope lpos] [] pos) (upE G Wx (eLam heard fb)) := by
  refine ⟨fun pins s σ H Q I ⟨ρ, ls, S, hs, hh, hp⟩ => ?_⟩
  obtain ⟨oc, od, dV, kV, doc, pm, an, cdv, ct, osl, rfl, lk, hcg, hD, hK⟩ := F.ex
  have hdV : dV = .none := by
    rcases hD with ⟨_, e⟩ | ⟨e, _⟩
    · exact e
    · exact absurd rfl e
  subst hdV
  refine wpAny_Call_Name_kw (ld_glob I hg hm (PySem.W.callWith_K (h₀ := X.base) I.ok.mod.kin F.kp (Calls.spliced_cons (rest := backTo pos (starEach [] X.env)) ?_) rfl rfl) hdb)
  refine lam_make2 I TB hcode hmT hu hh.tabs hdef (L.has I.ok) fun f c' pm' ctv H1 s' I1 eN T1 hf hfn hfr hco => Calls.spliced_nil ⟨I1.kIn, ?_⟩
  have nt : ∀ {o : HO}, noT o = true → ∀ ps, o ≠ .tbl ps := fun {o} n ps z => by subst z; cases n
  have eK : ∀ {b : Addr} {o : HO}, H b = some o → noT o = true → H1 b = some o := fun {b o} e n => eN b o e (nt n)
  have st : Step ρ H ρ H1 := ⟨fun _ _ h => h, fun _ _ h => .inl h, fun b o e _ n => eK e n, fun b h o e => (by
    cases n : noT o with
    | false => rfl
    | true => have := h o (eK e n); rw [n] at this; cases this), fun _ h => h⟩
  have h1 : RelH G ρ H1 S := ⟨hh.inj, fun l b e => (by
      obtain ⟨e1, o, e2, e3⟩ := hh.dmn l b e
      exact ⟨e1, o, eK e2 (okO_T e3), e3⟩), fun l ob e => (by
      have := hh.at_ l ob e
      cases ob with
      | lst ws => obtain ⟨b, xs, e1, e2, r⟩ := this; exact ⟨b, xs, e1, eK e2 rfl, r.step st⟩
      | dct kvs => obtain ⟨b, xs, e1, e2, el, r⟩ := this; exact ⟨b, xs, e1, eK e2 rfl, el, r.step st⟩
      | obj cn fs => obtain ⟨b, xs, dx, e1, e2, el, r⟩ := this; exact ⟨b, xs, dx, e1, eK e2 rfl, el, r.step st⟩
      | dead => trivial), hh.hot, T1, G.stab st hh.inv⟩
  have cc : Cold ρ c' := fun l _ e => by
    obtain ⟨_, o, e2, e3⟩ := hh.dmn l c' e
    have e4 := eK e2 (okO_T e3)
    rw [hco] at e4
    have e5 := Option.some.inj e4
    rw [← e5] at e3
    cases (show false = true from e3)
  have ai : askI G ls σ c' (X.env.qual ++ "<lambda>") ρ H1 := ⟨hs.step st, cc, hco⟩
  have h2 := plus_up h1 ai
  have hp1 : Post (G.plus ls σ c' (X.env.qual ++ "<lambda>")) ρ H1 (heard (fun S' => fb ls S') S) (QW G Q) (fun cls d H' => Wx cls d σ H') := post_up (Post.step st hp)
  rw [← conv f] at hp1
  refine landCall tk I1 (run_ofS (CX := CX X.prog X.w) (E := fun cls d H' => Wx cls d σ H') (Q := Q) (N := Ng) (ps := [a]) (us := [.ref f]) (vs := [.ref f]) lk hcg Sg hr.rm I1.env0 (.of_eq (hb1 _ _ _ _ _ _ [.ref f] rfl)) (.cons rfl .nil) rfl fun hr0 => ?_)
  have hr' : Rm (k + 1) (X.A.deeper (envOfC x sg s'.heap.objs.size g cdv)) := ⟨hr0, hr.gd⟩
  refine ⟨_, hG cdv f (fun S' => fb ls S') s' H1 _ (G.plus ls σ c' (X.env.qual ++ "<lambda>")) rfl hr' fun W pn xe p1 p2 tk1 => ?_, ?_⟩
  · refine PE.imp ?_ (act2 (i := 0) (tb := fun E => upE G (WxE E) fb) I1 L hf hfn hfr (hbind _ _ _ _ _) tk1 hr' (fun A outer s H E hr2 => hbody A outer s H E f c' hr2) hN0 hva hd hcd)
    rintro σZ HZ QZ ⟨ρ2, l2, S2, hs2, hh2, hp2⟩
    simp only [eAsk] at hp2
    cases q0 : l2[0]? with
    | none => rw [q0] at hp2; exact hp2.elim
    | some o =>
      cases o with
      | none => rw [q0] at hp2; exact hp2.elim
      | some w =>
        rw [q0] at hp2
        obtain ⟨y, hy, ry⟩ := hs2.2 0 w q0
        cases w with
        | adr b =>
          simp only at hp2
          by_cases z : b = f
          · rw [if_pos z] at hp2
            subst z
            cases ry
            exact ⟨hy, hh2.inv.2.2.2, ρ2, ls, S2, hh2.inv.2.1, plus_dn hh2, post_dn hh2.inv.2 hp2⟩
          · rw [if_neg z] at hp2; exact hp2.elim
        | _ => exact hp2.elim
  · exact ⟨ρ, _, S, relS_start (ws := [.adr f]) ⟨_, [], rfl, rfl, rfl⟩ m (by rw [hNg]; rfl), h2, PostS.run hp1⟩
end
end Mp
set_option Elab.async false
set_option linter.all false
set_option maxRecDepth 100000
set_option maxHeartbeats 4000000
namespace Mp
open PySem PySem.Spec PyProof.Rows L2
/-! ### [e for t in it if c] -/
section
theorem wipe_in {σ : L2.St} {i : Nat} : ∀ {vs : List Nat}, i ∈ vs → i < σ.length → (wipe σ vs)[i]? = some none
  | [], h, _ => by simp at h
  | v :: vs, h, hl => by
    unfold wipe
    by_cases e : v = i
    · subst e; rw [List.getElem?_set_self (by rw [wipe_length]; exact hl)]
    · rw [List.getElem?_set_ne e]
      exact wipe_in ((List.mem_cons.mp h).resolve_left fun z => e z.symm) hl
theorem wipe_set {σ : L2.St} {i : Nat} {y : Option V} {vs : List Nat} (h : i ∈ vs) : wipe (σ.set i y) vs = wipe σ vs := by
  refine List.ext_getElem? fun j => ?_
  by_cases hj : j ∈ vs
  · rcases Nat.lt_or_ge j σ.length with hl | hl
    · rw [wipe_in hj (by simpa using hl), wipe_in hj hl]
    · rw [List.getElem?_eq_none (by rw [wipe_length]; simpa using hl), List.getElem?_eq_none (by rw [wipe_length]; exact hl)]
  · rw [wipe_out hj, wipe_out hj, List.getElem?_set_ne (fun (z : i = j) => hj (by rw [← z]; exact h))]
theorem wipe_idem {σ : L2.St} {vs : List Nat} : wipe (wipe σ vs) vs = wipe σ vs := by
  refine List.ext_getElem? fun j => ?_
  by_cases hj : j ∈ vs
  · rcases Nat.lt_or_ge j σ.length with hl | hl
    · rw [wipe_in hj (by rw [wipe_length]; exact hl), wipe_in hj hl]
    · rw [List.getElem?_eq_none (by rw [wipe_length, wipe_length]; exact hl), List.getElem?_eq_none (by rw [wipe_length]; exact hl)]
  · rw [wipe_out hj]
@[simp] def wipeL (ls : LSt) : List Nat → LSt
  | [] => ls
  | v :: vs => (wipeL ls vs).set v none
theorem RelS.wiped {G : Gb} {ρ H ls σ} (h : RelS G ρ H ls σ) : ∀ vs, RelS G ρ H (wipeL ls vs) (wipe σ vs)
  | [] => h
  | v :: vs => by
    have := RelS.wiped h vs
    refine ⟨by simp [wipeL, wipe, this.1], fun j u e => ?_⟩
    unfold wipe
    simp only [wipeL] at e
    by_cases hj : v = j
    · subst hj
      rcases Nat.lt_or_ge v (wipeL ls vs).length with q | q
      · rw [List.getElem?_set_self q] at e; cases e
      · rw [List.getElem?_eq_none (by simpa using q)] at e; cases e
    · rw [List.getElem?_set_ne hj] at e ⊢
      exact this.2 j u e
end
abbrev GW := W → LSt → Option LSt
/-- a target of names of the block -/
def GT (G : Gb) (vs : List Nat) (g : TG) (gm : GW) : Prop := ∀ {ρ H ls σ w x ls2} {Q : L2.St → Hp → Prop}, RelW G ρ H w x → RelS G ρ H ls σ → gm w ls = some ls2 → (∀ σ2, RelS G ρ H ls2 σ2 → wipe σ2 vs = wipe σ vs → Q σ2 H) → g x σ H Q
def GTs (G : Gb) (vs : List Nat) (g : TGs) (gm : List W → LSt → Option LSt) : Prop := ∀ {ρ H ls σ ws xs ls2} {Q : L2.St → Hp → Prop}, RelWs G ρ H ws xs → RelS G ρ H ls σ → gm ws ls = some ls2 → (∀ σ2, RelS G ρ H ls2 σ2 → wipe σ2 vs = wipe σ vs → Q σ2 H) → g xs σ H Q
@[simp] def cN (i : Nat) : GW := fun w ls => some (ls.set i (some w))
@[simp] def cNs : List Nat → List W → LSt → Option LSt
  | [], [], ls => some ls
  | i :: is, w :: ws, ls => cNs is ws (ls.set i (some w))
  | _, _, _ => none
@[simp] def cT (is : List Nat) : GW := fun w ls => match w with
  | .tup ws => if ws.length = is.length then cNs is ws ls else none
  | _ => none
section
variable {G : Gb} {vs : List Nat}
theorem gt_name {i : Nat} (h : i ∈ vs) : GT G vs (gName i) (cN i) := fun rw' rs e k => by
  cases e
  exact k _ (rs.set rw' i) (wipe_set h)
theorem gts_nil : GTs G vs gNil (cNs []) := fun {_ _ _ _ ws _ _ _} rw' rs e k => by
  cases ws with
  | nil => cases e; exact ⟨rw', k _ rs rfl⟩
  | cons w ws => cases e
theorem gts_cons {i : Nat} {is : List Nat} {g : TGs} (h : i ∈ vs) (r : GTs G vs g (cNs is)) : GTs G vs (gCons (gName i) g) (cNs (i :: is)) := fun {_ _ _ _ ws _ _ _} rw' rs e k => by
  cases ws with
  | nil => cases e
  | cons w ws =>
    obtain ⟨y, ys, rfl, h1, h2⟩ := rw'
    refine ⟨y, ys, rfl, r h2 (rs.set h1 i) e fun σ2 k1 k2 => k σ2 k1 (k2.trans (wipe_set h))⟩
theorem gt_tup {K : PySem.W.Frag} {n : Nat} {is : List Nat} {g : TGs} (hK : G.K = K) (hn : is.length = n) (r : GTs G vs g (cNs is)) : GT G vs (gTup K n g) (cT is) := fun {_ _ _ _ w _ _ _} rw' rs e k => by
  cases w with
  | tup ws =>
    obtain ⟨a, xs, rfl, t, r1⟩ := rw'
    simp only [cT] at e
    by_cases z : ws.length = is.length
    · rw [if_pos z] at e
      exact ⟨a, xs, rfl, by rw [← hK]; exact t.sq, by rw [← r1.len, z, hn], r r1 rs e k⟩
    · rw [if_neg z] at e; cases e
  | _ => cases e
end
def lcGo (it : ItW) (g : GW) (t : TM) (e : EM) (l0 : Nat) (ls : LSt) : Nat → Nat → Sto → Res Unit
  | 0, _, _ => .stuck
  | n + 1, i, S => match itNext it i S with
    | none => .stuck
    | some none => .ok () S
    | some (some w) => match g w ls with
      | none => .stuck
      | some ls2 => (NoX (t ls2 S)).bind fun b S3 => if b = true then (NoX (e ls2 S3)).bind fun y S4 => match lstOf l0 S4 with
        | some acc => if acc.length < big then lcGo it g t e l0 ls n (i + 1) (S4.set l0 (.lst (acc ++ [y]))) else .stuck
        | none => .stuck else lcGo it g t e l0 ls n (i + 1) S3
@[simp] def tTrue : TM := fun _ S => .ok true S
@[simp] def eLc (f : LSt → M ItW) (g : GW) (t : TM) (e : EM) (vs : List Nat) : EM := fun ls S => (f ls S).bind fun it S1 => (lcGo it g t e S1.length (wipeL ls vs) (itFuel it S1) 0 (S1 ++ [.lst []])).bind fun _ S2 => .ok (.loc S1.length) S2
section
variable {X : Cx} {G : Gi} {Wx : WX}
abbrev WNo : WX := fun _ _ _ _ => False
theorem tLc_of {fi : LSt → M ItW} {g : TG} {gm : GW} {tm : TM} {em : EM} {vs : List Nat} (hg : GT G vs g gm) : ∀ σ H Q, upE G Wx (eLc fi gm tm em vs) σ H Q → tLc (upI G Wx fi) g (upT G WNo tm) (upE G WNo em) vs σ H Q := by
  rintro σ H Q ⟨ρ, ls, S, hs, hh, hp⟩
  refine ⟨ρ, ls, S, hs, hh, (Post.bind hp).mono fun it S1 ρ1 H1 s1 h1 q J hJ D hD => ?_⟩
  have st0 : Step ρ1 H1 (ext ρ1 S1.length D) (upd H1 D (.lst [])) := Step.new_ h1 hD
  have hh0 := lst_new h1 hD (ws := []) (xs := []) rfl
  refine ⟨fun i n H => ∃ ρ S, RelS G ρ H ls σ ∧ RelH G ρ H S ∧ RelIt G ρ H it J ∧ ρ S1.length = some D ∧ Post G ρ H ((lcGo it gm tm em S1.length (wipeL ls vs) n i S).bind fun _ S2 => .ok (W.loc S1.length) S2) (QW G Q) (fun c d H' => Wx c d σ H'), ⟨_, _, _, (hs.step s1).step st0, hh0, hJ.step st0, ext_same, Post.step st0 q⟩, ?_⟩
  rintro i n H ⟨ρ, S, hs, hh, hJ, hD, hp⟩
  cases n with
  | zero => exact hp.elim
  | succ n =>
    have nx := hJ ρ H S .refl hh i
    simp only [lcGo] at hp
    cases e : itNext it i S with
    | none => rw [e] at hp; exact hp.elim
    | some o =>
      rw [e] at hp nx
      cases o with
      | none => exact .inl ⟨nx, hp ρ H .refl hh _ ⟨D, hD, rfl⟩⟩
      | some w =>
        refine .inr ⟨nx.1, fun H' => ∃ ρ S, RelS G ρ H' ls σ ∧ RelH G ρ H' S ∧ RelIt G ρ H' it J ∧ ρ S1.length = some D ∧ Post G ρ H' ((lcGo it gm tm em S1.length (wipeL ls vs) n (i + 1) S).bind fun _ S2 => .ok (W.loc S1.length) S2) (QW G Q) (fun c d H' => Wx c d σ H'), fun H' h => ⟨n, Nat.lt_succ_self n, h⟩, fun x H' y => ?_⟩
        obtain ⟨st, hh', rw'⟩ := nx.2 x H' y
        simp only at hp
        cases e2 : gm w (wipeL ls vs) with
        | none => rw [e2] at hp; exact hp.elim
        | some ls2 =>
          rw [e2] at hp
          simp only at hp
          refine hg rw' ((hs.step st).wiped vs) e2 fun σ2 hs2 hw => ⟨hw.trans wipe_idem, ρ, ls2, S, hs2, hh', ?_⟩
          cases et : tm ls2 S with
          | exc c fs S' => rw [et] at hp; exact hp.elim
          | stuck => rw [et] at hp; exact hp.elim
          | ok b S3 =>
            rw [et] at hp
            intro ρ2 H2 s2 h2
            simp only [NoX, Res.bind] at hp
            cases b with
            | false =>
              exact ⟨ρ2, S3, (hs.step st).step s2, h2, (hJ.step st).step s2, s2.sub _ _ (st.sub _ _ hD), Post.step (st.trans s2) hp⟩
            | true =>
              simp only [if_true] at hp ⊢
              refine ⟨ρ2, ls2, S3, hs2.step s2, h2, ?_⟩
              cases ee : em ls2 S3 with
              | exc c fs S' => rw [ee] at hp; exact hp.elim
              | stuck => rw [ee] at hp; exact hp.elim
              | ok v S4 =>
                rw [ee] at hp
                intro ρ3 H3 s3 h3 z rz
                simp only [NoX, Res.bind] at hp
                cases eq : lstOf S1.length S4 with
                | none => rw [eq] at hp; exact hp.elim
                | some acc =>
                  rw [eq] at hp
                  simp only at hp
                  by_cases ez : acc.length < big
                  · rw [if_pos ez] at hp
                    have hD3 : ρ3 S1.length = some D := s3.sub _ _ (s2.sub _ _ (st.sub _ _ hD))
                    obtain ⟨a, xs, e0, ea, e1, r1⟩ := rel_lst h3 (x := .ref D) ⟨D, hD3, rfl⟩ (lstOf_eq eq)
                    cases e0
                    have hw := h3.warm (lstOf_eq eq) (by simp)
                    have sp : Step ρ3 H3 ρ3 (upd H3 D (.lst (xs ++ [z]))) := Step.put ea hw ⟨_, e1, rfl⟩
                    exact ⟨xs, e1, by rw [← r1.len]; exact Nat.lt_of_lt_of_le ez big_le, ρ3, _, ((((hs.step st).step s2).step s3).step sp), lst_put h3 ea hw ⟨_, e1, rfl⟩ (r1.append (us := [v]) ⟨z, [], rfl, rz, rfl⟩), (((hJ.step st).step s2).step s3).step sp, hD3, Post.step (((st.trans s2).trans s3).trans sp) hp⟩
                  · rw [if_neg ez] at hp; exact hp.elim
end
section
variable {X : Cx} {G : Gi} {Wx : WX}
/-- the block's context -/
abbrev blkX (X : Cx) (s : Shared) (H : Hp) (C : Addr) (cl : List (Str × Addr)) (fp : List Addr) (scope : Scope) : Cx := X.blk s H scope (compEnvC scope cl C X.env) fp
theorem e_lc {elt tg iter : Expr} {ifs : List Expr} {scope : Scope} {own : List (Str × Nat)} {pos : Pos} {fi : LSt → M ItW} {g : TG} {gm : GW} {tm : TM} {em : EM} (hc : X.calm = true) (hN : X.N.Nodup) (hi : PI X tg iter (upI G Wx fi)) (ok : BlkOk X.N X.env.scope scope own)
    (hgt : GT G (own.map (·.2)) g gm) (hg : ∀ (s : Shared) (H : Hp) (C : Addr) (cl : List (Str × Addr)) (fp : List Addr), PG (X.blk s H scope (compEnvC scope cl C X.env) fp) tg g)
    (ht : ∀ (s : Shared) (H : Hp) (C : Addr) (cl : List (Str × Addr)) (fp : List Addr), Takes (X.blk s H scope (compEnvC scope cl C X.env) fp) WNo → PTs (X.blk s H scope (compEnvC scope cl C X.env) fp) ifs (upT G WNo tm))
    (he : ∀ (s : Shared) (H : Hp) (C : Addr) (cl : List (Str × Addr)) (fp : List Addr), Takes (X.blk s H scope (compEnvC scope cl C X.env) fp) WNo → PE (X.blk s H scope (compEnvC scope cl C X.env) fp) elt (upE G WNo em))
    (hs : ∀ x, foldedSetIterable iter X.env x = pure x := by intro _; rfl) :
    PE X (.ListComp elt [⟨tg, iter, ifs, 0⟩] scope pos) (upE G Wx (eLc fi gm tm em (own.map (·.2)))) :=
  PE.imp (tLc_of hgt) (pe_lc hc hN hi ok hg (fun s H C cl fp => ht s H C cl fp LamX.takes0) (fun s H C cl fp => he s H C cl fp LamX.takes0) hs)
theorem s_setLc {i : Nat} {y : Str} {py : Pos} {elt tg iter : Expr} {ifs : List Expr} {scope : Scope} {own : List (Str × Nat)} {pos spos : Pos} {fi : LSt → M ItW} {g : TG} {gm : GW} {tm : TM} {em : EM} (hN : X.N.Nodup) (hy : X.N[i]? = some y) (hyl : X.env.scope.names.lookup y = some .local)
    (hi : PI X tg iter (upI G Wx fi)) (ok : BlkOk X.N X.env.scope scope own)
    (hgt : GT G (own.map (·.2)) g gm) (hg : ∀ (s : Shared) (H : Hp) (C : Addr) (cl : List (Str × Addr)) (fp : List Addr), PG (X.blk s H scope (compEnvC scope cl C X.env) fp) tg g)
    (ht : ∀ (s : Shared) (H : Hp) (C : Addr) (cl : List (Str × Addr)) (fp : List Addr), Takes (X.blk s H scope (compEnvC scope cl C X.env) fp) WNo → PTs (X.blk s H scope (compEnvC scope cl C X.env) fp) ifs (upT G WNo tm))
    (he : ∀ (s : Shared) (H : Hp) (C : Addr) (cl : List (Str × Addr)) (fp : List Addr), Takes (X.blk s H scope (compEnvC scope cl C X.env) fp) WNo → PE (X.blk s H scope (compEnvC scope cl C X.env) fp) elt (upE G WNo em))
    (hc : X.calm = true := by rfl) (hsw : swapsWith (.ListComp elt [⟨tg, iter, ifs, 0⟩] scope pos) (some (.Name y py)) spos.line X.env = pure true := by rfl) (hs : ∀ x, foldedSetIterable iter X.env x = pure x := by intro _; rfl) :
    PS X (.Assign [.Name y py] (.ListComp elt [⟨tg, iter, ifs, 0⟩] scope pos) spos) (upS G Wx (sAsg (eLc fi gm tm em (own.map (·.2))) (gNm i))) :=
  PS.imp (fun D σ H ⟨ρ, ls, S, hrs, hh, hp⟩ => tLc_of hgt σ H _ ⟨ρ, ls, S, hrs, hh, (PostS.of hrs hp).mono fun v S1 ρ1 H1 s1 h1 q x rx => q ρ1 H1 _ .refl h1 ((hrs.step s1).set rx i)⟩) (ps_setLc hc hN hy hyl hsw hi ok hg (fun s H C cl fp => ht s H C cl fp LamX.takes0) (fun s H C cl fp => he s H C cl fp LamX.takes0) hs)
theorem ts_none {P : Cx} : PTs P [] (upT G WNo tTrue) := ⟨fun pins s σ H Q I ⟨ρ, ls, S, hs, hh, hp⟩ => pts_nil.run pins s σ H Q I (hp ρ H .refl hh)⟩
theorem ts_one {P : Cx} {c : Expr} {tm : TM} (h : PT P c (upT G WNo tm)) : PTs P [c] (upT G WNo tm) := pts_one h
end
end Mp
set_option Elab.async false
set_option linter.all false
set_option maxRecDepth 100000
set_option maxHeartbeats 4000000
namespace Mp
open PySem PySem.Spec PyProof.Rows L2
section
variable {X : Cx} {G : Gi} {Wx : WX} {a b c e o : Expr} {fa fb fc : EM} {pos pos' p p2 : Pos} {es : List Expr} {fs : AM} {x : Str}
/-! ### is -/
@[simp] def isW (neg : Bool) : W → W → M W := fun v u S => match u with
  | .non => match v with
    | .non => .ok (.bl (!neg)) S
    | _ => .ok (.bl neg) S
  | .bl j => match v with
    | .bl i => .ok (.bl (if neg then !decide (i = j) else decide (i = j))) S
    | _ => .stuck
  | _ => .stuck
theorem rel_non {ρ H v x} (r : RelW G ρ H v x) : decide (x = V.non) = (match v with | .non => true | _ => false) := by
  cases v with
  | non => cases r; rfl
  | bl b => cases r; rfl
  | int i => cases r; rfl
  | str z => cases r; rfl
  | tup ws => obtain ⟨a, xs, rfl, _⟩ := r; rfl
  | ins c ws => obtain ⟨a, xs, rfl, _⟩ := r; rfl
  | exc c ws => obtain ⟨a, d, rfl, _⟩ := r; rfl
  | loc l => obtain ⟨a, _, rfl⟩ := r; rfl
  | glo g => cases r; rfl
  | ty n => cases r; rfl
  | adr a => cases r; rfl
theorem o_is : OpR X (compareOp .Is) (upR G (isW false)) := by
  refine OpR.imp ?_ (OpR.or op_isN op_isBl)
  rintro x y H Q ⟨ρ, v, u, S, rv, ru, hh, hp⟩
  cases u with
  | non =>
    cases ru
    refine .inl ⟨rfl, ?_⟩
    rw [rel_non rv]
    cases v <;> exact hp ρ H .refl hh _ rfl
  | bl j =>
    cases v with
    | bl i => exact .inr ⟨i, j, rv, ru, hp ρ H .refl hh _ rfl⟩
    | _ => exact hp.elim
  | _ => exact hp.elim
theorem o_isnot : OpR X (compareOp .IsNot) (upR G (isW true)) := by
  refine OpR.imp ?_ (OpR.or op_notN op_notBl)
  rintro x y H Q ⟨ρ, v, u, S, rv, ru, hh, hp⟩
  cases u with
  | non =>
    cases ru
    refine .inl ⟨rfl, ?_⟩
    rw [rel_non rv]
    cases v <;> exact hp ρ H .refl hh _ rfl
  | bl j =>
    cases v with
    | bl i => exact .inr ⟨i, j, rv, ru, hp ρ H .refl hh _ rfl⟩
    | _ => exact hp.elim
  | _ => exact hp.elim
/-! ### range -/
@[simp] def rg1 : List W → M ItW := fun vs S => match vs with
  | [.int j] => if -4611686018427387904 ≤ j ∧ j < 4611686018427387904 then .ok (.rng 0 j.toNat) S else .stuck
  | _ => .stuck
@[simp] def rg2 : List W → M ItW := fun vs S => match vs with
  | [.int i, .int j] => if (-4611686018427387904 ≤ i ∧ i < 4611686018427387904) ∧ -4611686018427387904 ≤ j ∧ j < 4611686018427387904 then .ok (.rng i (j - i).toNat) S else .stuck
  | _ => .stuck
@[simp] def iRg (f : List W → M ItW) (g : AM) : LSt → M ItW := fun ls S => (g ls S).bind fun vs S1 => NoX (f vs S1)
theorem i_rg1 {tg : Expr} (hg : Gl X "range") (hm : X.mg "range" = none) (ha : PA X [a] (upA G Wx fs)) (hs : starEach [a] X.env = [(false, eval a X.env)] := by rfl) : PI X tg (.Call (.Name "range" p) [a] [] pos) (upI G Wx (iRg rg1 fs)) :=
  PI.imp (fun σ H Q ⟨ρ, ls, S, hs, hh, hp⟩ => ⟨ρ, ls, S, hs, hh, (Post.bind hp).mono fun vs S1 ρ1 H1 s1 h1 q xs rs => by
    cases vs with
    | nil => exact q.elim
    | cons v vs =>
      cases vs with
      | cons _ _ => cases v <;> exact q.elim
      | nil =>
        cases v with
        | int j =>
          obtain ⟨x, rfl, r⟩ := rel1 rs
          cases r
          simp only [rg1] at q
          by_cases z : -4611686018427387904 ≤ j ∧ j < 4611686018427387904
          · rw [if_pos z] at q
            exact ⟨j, rfl, by omega, by omega, q ρ1 H1 .refl h1 _ RelIt.ofR⟩
          · rw [if_neg z] at q; exact q.elim
        | _ => exact q.elim⟩) (pi_range1 hg hm ha hs)
theorem i_rg2 {tg : Expr} (hg : Gl X "range") (hm : X.mg "range" = none) (ha : PA X [a, b] (upA G Wx fs)) (hs : starEach [a, b] X.env = [(false, eval a X.env), (false, eval b X.env)] := by rfl) (hs2 : starEach [b] X.env = [(false, eval b X.env)] := by rfl) : PI X tg (.Call (.Name "range" p) [a, b] [] pos) (upI G Wx (iRg rg2 fs)) :=
  PI.imp (fun σ H Q ⟨ρ, ls, S, hs, hh, hp⟩ => ⟨ρ, ls, S, hs, hh, (Post.bind hp).mono fun vs S1 ρ1 H1 s1 h1 q xs rs => by
    cases vs with
    | nil => exact q.elim
    | cons v vs =>
      cases vs with
      | nil => cases v <;> exact q.elim
      | cons u vs =>
        cases vs with
        | cons _ _ => cases v <;> cases u <;> exact q.elim
        | nil =>
          cases v with
          | int i =>
            cases u with
            | int j =>
              obtain ⟨x, y, rfl, r1, r2⟩ := rel2 rs
              cases r1; cases r2
              simp only [rg2] at q
              by_cases z : (-4611686018427387904 ≤ i ∧ i < 4611686018427387904) ∧ -4611686018427387904 ≤ j ∧ j < 4611686018427387904
              · rw [if_pos z] at q
                exact ⟨i, j, rfl, ⟨by omega, by omega, by omega, by omega⟩, q ρ1 H1 .refl h1 _ RelIt.ofR⟩
              · rw [if_neg z] at q; exact q.elim
            | _ => exact q.elim
          | _ => cases u <;> exact q.elim⟩) (pi_range2 hg hm ha hs hs2)
/-! ### f-strings, str -/
@[simp] def fmtW : W → M W := fun v S => match v with
  | .str y => if y.length ≤ big then .ok (.str y) S else .stuck
  | .int i => if i.natAbs.log2 < 1920 then .ok (.str (toString i)) S else .stuck
  | _ => .stuck
theorem e_fmt (h : PE X a (upE G Wx fa)) : PE X (.FormattedValue a (-1) none pos) (upE G Wx (eUn fmtW fa)) :=
  PE.imp (fun σ H Q ⟨ρ, ls, S, hs, hh, hp⟩ => ⟨ρ, ls, S, hs, hh, (Post.bind hp).mono fun v S1 ρ1 H1 s1 h1 q x rx => by
    have q := NoX_post (E' := NoE) q
    cases v with
    | str y =>
      simp only [fmtW] at q
      by_cases z : y.length ≤ big
      · rw [if_pos z] at q
        exact .inl ⟨y, rx, le_line z, q ρ1 H1 .refl h1 _ rfl⟩
      · rw [if_neg z] at q; exact q.elim
    | int i =>
      simp only [fmtW] at q
      by_cases z : i.natAbs.log2 < 1920
      · rw [if_pos z] at q
        exact .inr ⟨i, rx, z, q ρ1 H1 .refl h1 _ rfl⟩
      · rw [if_neg z] at q; exact q.elim
    | _ => exact q.elim⟩) (pe_fmt h)
def jnGo : List EM → Str → LSt → M Str
  | [], acc, _, S => .ok acc S
  | f :: fs, acc, ls, S => (f ls S).bind fun v S1 => match v with
    | .str y => if (acc ++ y).length ≤ big then jnGo fs (acc ++ y) ls S1 else .stuck
    | _ => .stuck
@[simp] def eJn (fs : List EM) : EM := fun ls S => (jnGo fs Str.empty ls S).bind fun z S1 => .ok (.str z) S1
inductive JW (X : Cx) (G : Gi) (Wx : WX) : List Expr → List EM → Prop where
  | nil : JW X G Wx [] []
  | cons {e : Expr} {f : EM} {es : List Expr} {fs : List EM} (h : PE X e (upE G Wx f)) (r : JW X G Wx es fs) : JW X G Wx (e :: es) (f :: fs)
theorem JW.pj {es : List Expr} {fs : List EM} (h : JW X G Wx es fs) : PJ X es (fs.map (upE G Wx)) := by
  induction h with
  | nil => exact .nil
  | cons h _ ih => exact .cons h ih
theorem tJs_of : ∀ (fs : List EM) (acc : Str) (σ : L2.St) (H : Hp) (Q : Str → Hp → Prop) (ρ : Rho) (ls : LSt) (S : Sto), RelS G ρ H ls σ → RelH G ρ H S → Post G ρ H (jnGo fs acc ls S) (fun z _ _ H' => Q z H') (fun c d H' => Wx c d σ H') → tJs (fs.map (upE G Wx)) acc σ H Q
  | [], acc, σ, H, Q, ρ, ls, S, hs, hh, hp => hp ρ H .refl hh
  | f :: fs, acc, σ, H, Q, ρ, ls, S, hs, hh, hp => by
    refine ⟨ρ, ls, S, hs, hh, (Post.bind hp).mono fun v S1 ρ1 H1 s1 h1 q x rx => ?_⟩
    cases v with
    | str y =>
      simp only at q
      by_cases z : (acc ++ y).length ≤ big
      · rw [if_pos z] at q
        exact ⟨y, rx, le_line z, tJs_of fs (acc ++ y) σ H1 Q ρ1 ls S1 (hs.step s1) h1 q⟩
      · rw [if_neg z] at q; exact q.elim
    | _ => exact q.elim
theorem e_jn {v1 v2 : Expr} {rest : List Expr} {fs : List EM} (h : JW X G Wx (v1 :: v2 :: rest) fs) : PE X (.JoinedStr (v1 :: v2 :: rest) pos) (upE G Wx (eJn fs)) :=
  PE.imp (fun σ H Q ⟨ρ, ls, S, hs, hh, hp⟩ => tJs_of fs Str.empty σ H _ ρ ls S hs hh ((Post.bind hp).mono fun z S1 ρ1 H1 s1 h1 q => q ρ1 H1 .refl h1 _ rfl)) (pe_joined h.pj)
theorem e_jn1 (h : PE X a (upE G Wx fa)) : PE X (.JoinedStr [a] pos) (upE G Wx fa) := pe_joined1 h
end
end Mp
set_option Elab.async false
set_option linter.all false
set_option maxRecDepth 100000
set_option maxHeartbeats 4000000
namespace PySem.W
open PySem PySem.Spec PySem.Calls PyProof.Rows Builtin
section
variable {prog : Program} {w : World} {A : Around} {E : Value → Shared → Prop} {s : Shared} {K : Frag} {x C f : Addr} {ox : Obj} {od : Option Obj} {b tb : Value}
/-- x != b where x's class has __eq__ alone -/
theorem mp_ne {Q : Value → Shared → Prop} (hu : A.units + 1 < cLine) (X : K.In s.heap) (I : InstAt s.heap x ox C od) (hb : Looks (model prog w) s.heap (typeOf b) tb) (hn : notFirst K C tb = true) (hm : mroIn K C (.type "object") = some true)
    (hne : findIn K (.ref C) "__ne__" = some (some (.builtin "object.__ne__"))) (hs : findIn K (.ref C) "__eq__" = some (some (.ref f))) (hf : isFn K (.ref f) = true)
    (h : wpAny (model prog w) A.in1 (call (.ref f) [.ref x, b]) (fun v s' => ∃ k, v = .bool k ∧ Q (.bool (!k)) s') E s) : wpAny (model prog w) A (richCompare .NotEq (.ref x) b) Q E s := by
  have entry : wpAny (model prog w) A.in1 (Builtin.«object.__ne__» ⟨[.ref x, b], []⟩) (fun z s' => ∃ k, z = .done (.ret (.bool (!k))) ∧ Q (.bool (!k)) s') E s := by
    unfold Builtin.«object.__ne__»
    repeat (first
      | with_reducible refine wpAny_cRoomFor (A := A.in1) hu ?_
      | (refine wpAny_bind (m := callSpecialIfBound? (.ref x) (Str.ofString "__eq__") [b])
          (ifBound_K X I hs hf (wpAny_mono h (fun r s' hr => by
            obtain ⟨k, rfl, hq⟩ := hr
            repeat (first | exact ⟨k, rfl, hq⟩ | exact wpAny_pure ⟨k, rfl, hq⟩ | exact wpAny_truthy_bool ⟨k, rfl, hq⟩ | (refine wpAny_bind (m := truthy (.bool _)) (wpAny_truthy_bool ?_)) | wp_step)) fun _ _ e => e)))
      | wp_step)
  have one : wpAny (model prog w) A (tryCompare (.ref x) "__ne__" b) (fun r s' => ∃ k, r = some (.bool (!k)) ∧ Q (.bool (!k)) s') E s := by
    unfold tryCompare
    refine wpAny_bind (NtL.csib (I.type.andThen (looks_findIn X hne)) (F.cmp_object.ne.bind _) (wpAny_call (codeAny_call_builtin F.cmp_object.ne.plain F.cmpEntry_ne
      (check_slot F.cmpKind_ne F.cmpSplit_ne (I.type.andThen (looks_mroIn X hm)) (F.cmpArgs_ne _ _) (wpAny_mono entry (fun z s' hz => ?_) fun _ _ e => e)))))
    obtain ⟨k, rfl, hq⟩ := hz
    first | exact wpAny_pure ⟨k, rfl, hq⟩ | exact ⟨k, rfl, hq⟩
  have last : ∀ {k : Option Value → Sem Value}, (∀ v, k (some v) = pure v) → ∀ (r : Option Value) (z : Shared), (∃ c, r = some (.bool (!c)) ∧ Q (.bool (!c)) z) → wpAny (model prog w) A (k r) Q E z := by
    rintro k hk _ z ⟨c, rfl, q⟩
    rw [hk]
    exact wpAny_pure q
  unfold richCompare
  simp only [oneThing_ref]
  refine wpAny_holding (wpAny_bind (wpAny_cRoomFor (by omega) (wpAny_bind (I.type.here (wpAny_bind (hb.here ?_))))))
  by_cases own : tb = .ref C
  · subst own
    simp only [bne_self_eq_false, Bool.false_eq_true, if_false]
    refine wpAny_bind (wpAny_pure ?_)
    exact wpAny_bind (wpAny_mono one (last fun _ => rfl) fun _ _ e => e)
  · have below : subIn K tb (.ref C) = some false := by
      simp only [notFirst, Bool.or_eq_true, beq_iff_eq] at hn
      exact hn.resolve_left own
    have other : (Value.ref C != tb) = true := bne_iff_ne.mpr fun e => own e.symm
    rw [if_pos other]
    refine wpAny_bind ((looks_subIn X below).here ?_)
    exact wpAny_bind (wpAny_mono one (last fun _ => rfl) fun _ _ e => e)
end
end PySem.W
namespace Mp
open PySem PySem.Spec PyProof.Rows L2
/-- class c has the def g under the name id -/
def DuOk (P : Program) (w : World) (mg : Str → Option Value) (base : Heap) (G : Gi) (k : Nat) (id : Str) (c : Nat) : Option BM → Prop
  | some g => ∃ a, PySem.W.findIn G.K (.ref (G.cls c)) id = some (some (.ref a)) ∧ PySem.W.isFn G.K (.ref a) = true ∧ FnG P w G.K mg base (CX P w) k a (spR G g)
  | none => True
section
variable {X : Cx} {G : Gi} {Wx : WX} {k : Nat}
theorem rel_inst {pins : List (Addr × Obj)} {σ : L2.St} {H : Hp} {s : Shared} {ρ : Rho} {S : Sto} {v : W} {x : V} {c : Nat} {fs : List W} (I : Inv X pins σ H s) (hh : RelH G ρ H S) (r : RelW G ρ H v x) (e : objV v S = some (c, fs)) : ∃ a ox od, x = .ref a ∧ PySem.W.InstAt s.heap a ox (G.cls c) (some od) := by
  obtain ⟨a, dx, xs, rfl, ea, _, _⟩ := rel_obj hh r e
  obtain ⟨mA, O, _⟩ := ins_get I.hok ea
  obtain ⟨od, J, _⟩ := O.look
  exact ⟨a, _, od, rfl, J⟩
/-- a special's def is run, at another depth -/
theorem du_run {A : Around} {pins : List (Addr × Obj)} {σ : L2.St} {H : Hp} {s : Shared} {us : List Value} {vs : List V} {f : Addr} {g : BM} {Q : VK} {E' : Value → Shared → Prop} (F : FnG X.prog X.w X.K X.mg X.base (CX X.prog X.w) k f (spR G g)) (hr : Rm k A) (e0 : Env0 X.prog X.w X.K X.mg X.base A X.stack s H) (I : Inv X pins σ H s) (r : Vals vs us)
    (h : spR G g vs H Q NoE) : wpAny (model X.prog X.w) A (call (.ref f) us) (EP X pins σ Q) E' s := by
  refine wpAny_call (codeAny_mono (F A X.stack s H us vs Q NoE hr e0 r h) fun z s' hz => ?_)
  cases z with
  | error e =>
    obtain ⟨_, _, _, _, _, _, _, _, _, _, _, _, z⟩ := hz
    exact z.elim
  | ok fl =>
    cases fl with
    | ret u => exact I.after hz
    | next => exact False.elim hz
    | brk => exact False.elim hz
    | cont => exact False.elim hz
/-! ### str -/
@[simp] def duS (tab : Nat → Option BM) (v : W) : M W := fun S => match objV v S with
  | some (c, _) => match tab c with
    | some g => (NoX (g [v] S)).bind fun r S' => match r with
      | .str z => .ok (.str z) S'
      | _ => .stuck
    | none => .stuck
  | none => .stuck
@[simp] def strW (tab : Nat → Option BM) : W → M W := fun v S => match v with
  | .str z => .ok (.str z) S
  | .int i => if i.natAbs.log2 < 1920 then .ok (.str (toString i)) S else .stuck
  | v => duS tab v S
theorem c_strO {tab : Nat → Option BM} (hK : G.K = X.K) (hr : Rm (k + 2) X.A) (T : ∀ c, DuOk X.prog X.w X.mg X.base G k "__str__" c (tab c)) : CallR X (.type "str") (upC G (b1 (duS tab))) := by
  refine c_b1 ?_
  rintro pins s σ H xs us Q I r ⟨x, rfl, ρ, v, S, rv, hh, hp⟩
  obtain ⟨u, rfl, ru⟩ : ∃ u, us = [u] ∧ RelV x u := by
    cases r with
    | cons h t => cases t; exact ⟨_, rfl, h⟩
  simp only [duS] at hp
  cases q1 : objV v S with
  | none => rw [q1] at hp; exact hp.elim
  | some cf =>
    obtain ⟨c, fs⟩ := cf
    rw [q1] at hp
    simp only at hp
    have Tc := T c
    cases q2 : tab c with
    | none => rw [q2] at hp; exact hp.elim
    | some g =>
      rw [q2] at hp Tc
      obtain ⟨fa, h1, h2, F⟩ := Tc
      rw [hK] at h1 h2 F
      obtain ⟨a, ox, od, rfl, J⟩ := rel_inst I hh rv q1
      obtain rfl : u = Value.ref a := ru
      refine PySem.W.kso_call hr.in1.in1.units0 I.kIn J h1 h2 (wpAny_mono (du_run (vs := [.ref a]) (Q := fun y H' => ∃ z, y = .str z ∧ Q (.str z) H') F hr.in1.in1 I.env0.in1.in1 I (.cons rfl .nil) ⟨ρ, [v], S, ⟨_, [], rfl, rv, rfl⟩, hh, (NoX_post (Post.bind hp)).mono fun w S1 ρ1 H1 s1 h3 q y ry => ?_⟩) (fun y s' hy => ?_) fun _ _ z => z)
      · cases w with
        | str z => cases ry; exact ⟨z, rfl, q ρ1 H1 .refl h3 _ rfl⟩
        | _ => exact q.elim
      · obtain ⟨x', H', I', rx', z, rfl, q⟩ := hy
        obtain ⟨t, rfl⟩ := rx'
        exact ⟨.str z, H', I', ⟨t, rfl⟩, q⟩
theorem c_str {tab : Nat → Option BM} (hK : G.K = X.K) (hr : Rm (k + 2) X.A) (T : ∀ c, DuOk X.prog X.w X.mg X.base G k "__str__" c (tab c)) : CallR X (.type "str") (upC G (b1 (strW tab))) := by
  refine CallR.imp ?_ (CallR.or SkE.call_str_str (CallR.or call_str_int (c_strO hK hr T)))
  rintro xs H Q ⟨ρ, vs, S, rv, hh, hp⟩
  cases vs with
  | nil => exact hp.elim
  | cons v vs =>
    cases vs with
    | cons _ _ => exact hp.elim
    | nil =>
      obtain ⟨x, rfl, r⟩ := rel1 rv
      cases v with
      | str z => exact .inl ⟨z, by cases r; rfl, hp ρ H .refl hh _ rfl⟩
      | int i =>
        have hp : Post G ρ H (if i.natAbs.log2 < 1920 then Res.ok (W.str (toString i)) S else .stuck) (QW G Q) NoE := hp
        by_cases z : i.natAbs.log2 < 1920
        · rw [if_pos z] at hp
          exact .inr (.inl ⟨i, by cases r; rfl, z, hp ρ H .refl hh _ rfl⟩)
        · rw [if_neg z] at hp; exact hp.elim
      | _ => exact .inr (.inr ⟨ρ, [_], S, ⟨x, [], rfl, r, rfl⟩, hh, hp⟩)
/-! ### == and != by an own __eq__ -/
/-- b's class is not asked first -/
@[simp] def nfK (n : Nat) (sub : Nat → Nat → Bool) (c : Nat) : Kd → Bool
  | .b _ => decide (c < n)
  | .c d => (d == c || (decide (d < n) && decide (c < n) && !sub d c)) && !sub (d + 1000) (d + 1000)
@[simp] def eqO (neg : Bool) (n : Nat) (sub : Nat → Nat → Bool) (tab : Nat → Option BM) : W → W → M W := fun v u S => match objV v S with
  | some (c, _) => match tab c with
    | some g => match kdW u S with
      | some kd => if nfK n sub c kd = true ∧ c < n then (NoX (g [v, u] S)).bind fun r S' => match r with
        | .bl z => .ok (.bl (if neg then !z else z)) S'
        | _ => .stuck else .stuck
      | none => .stuck
    | none => .stuck
  | none => .stuck
structure EqT (G : Gb) (n : Nat) (sub : Nat → Nat → Bool) : Prop where
  s1 : ∀ a ∈ tyNs, ∀ c < n, PySem.W.subIn G.K (.type a) (.ref (G.cls c)) = some false
  s2 : ∀ c < n, ∀ d < n, sub d c = false → PySem.W.subIn G.K (.ref (G.cls d)) (.ref (G.cls c)) = some false
  ne : ∀ c < n, PySem.W.mroIn G.K (G.cls c) (.type "object") = some true
  s3 : ∀ t ∈ tyNs, ∀ c < n, PySem.W.subIn G.K (.ref (G.cls c)) (.type t) = some false
theorem nf_ok {n sub c v S kd} (T : EqT G n sub) (e : kdW v S = some kd) (h : nfK n sub c kd = true) : PySem.W.notFirst G.K (G.cls c) (tyV_ G kd) = true := by
  unfold PySem.W.notFirst
  cases kd with
  | b a =>
    have hc : c < n := of_decide_eq_true h
    show (_ || PySem.W.subIn G.K (.type a) (.ref (G.cls c)) == some false) = true
    rw [T.s1 a (kdW_b e) c hc]
    simp
  | c d =>
    simp only [nfK, Bool.or_eq_true, beq_iff_eq, Bool.and_eq_true, decide_eq_true_eq, Bool.not_eq_true'] at h
    replace h := h.1
    show (Value.ref (G.cls d) == Value.ref (G.cls c) || PySem.W.subIn G.K (.ref (G.cls d)) (.ref (G.cls c)) == some false) = true
    rcases h with h | ⟨⟨h1, h2⟩, h3⟩
    · subst h; simp
    · rw [T.s2 c h2 d h1 h3]; simp
theorem o_eqO {n sub} {tab : Nat → Option BM} (hK : G.K = X.K) (hr : Rm (k + 1) X.A) (KT : KitT G n sub) (ET : EqT G n sub) (T : ∀ c, DuOk X.prog X.w X.mg X.base G k "__eq__" c (tab c)) : OpR X (compareOp .Eq) (upR G (eqO false n sub tab)) := by
  rintro pins s σ H x y va ua Q I rx ry ⟨ρ, v, u, S, rv, ru, hh, hp⟩
  simp only [eqO] at hp
  cases q1 : objV v S with
  | none => rw [q1] at hp; exact hp.elim
  | some cf =>
    obtain ⟨c, fs⟩ := cf
    rw [q1] at hp
    simp only at hp
    have Tc := T c
    cases q2 : tab c with
    | none => rw [q2] at hp; exact hp.elim
    | some g =>
      rw [q2] at hp Tc
      simp only at hp
      obtain ⟨fa, h1, h2, F⟩ := Tc
      rw [hK] at h1 h2 F
      cases q3 : kdW u S with
      | none => rw [q3] at hp; exact hp.elim
      | some kd =>
        rw [q3] at hp
        simp only at hp
        by_cases z : nfK n sub c kd = true ∧ c < n
        · rw [if_pos z] at hp
          obtain ⟨a, ox, od, rfl, J⟩ := rel_inst I hh rv q1
          obtain rfl : va = Value.ref a := rx
          have hi : isiK n sub kd (.glo c) ≠ none := by
            cases kd with
            | b a => simp only [isiK, if_pos z.2]; simp
            | c d =>
              have h := z.1
              simp only [nfK, Bool.or_eq_true, beq_iff_eq, Bool.and_eq_true, decide_eq_true_eq] at h
              replace h := h.1
              have hd : d < n := by
                rcases h with h | h
                · rw [h]; exact z.2
                · exact h.1.1
              simp only [isiK, if_pos hd, if_pos z.2]; simp
          obtain ⟨r0, hr0⟩ := Option.ne_none_iff_exists'.mp hi
          have hx : xkK sub kd = false := by
            cases kd with
            | b a => rfl
            | c d =>
              have h := z.1
              simp only [nfK, Bool.and_eq_true, Bool.not_eq_true'] at h
              exact h.2
          have ty := kd_ty KT ru hh q3 hr0 hx
          rw [hK] at ty
          obtain ⟨P, Z, pz, _⟩ := kit_of I ry ty
          have nf := nf_ok ET q3 z.1
          rw [hK] at nf
          obtain ⟨m, hF⟩ := I.fr
          show wpAny (model X.prog X.w) X.A (richCompare .Eq (.ref a) ua) _ _ _
          refine PySem.W.cmp_K (op := .Eq) hr.units0 hF I.ok.mod.kin J (Z.ty _ _ I.kIn pz) nf h1 h2 ?_
          refine wpAny_mono (du_run (vs := [.ref a, y]) (Q := fun y H' => ∃ z, y = .bl z ∧ Q (.bl z) H') F (hr.mono (Nat.le_succ _)) I.env0 I (.cons rfl (.cons ry .nil)) ⟨ρ, [v, u], S, ⟨_, _, rfl, rv, _, _, rfl, ru, rfl⟩, hh, (NoX_post (Post.bind hp)).mono fun w S1 ρ1 H1 s1 h3 q y' ry' => ?_⟩) (fun y' s' hy => ?_) fun _ _ z => z
          · cases w with
            | bl z => cases ry'; exact ⟨z, rfl, q ρ1 H1 .refl h3 _ rfl⟩
            | _ => exact q.elim
          · obtain ⟨x', H', I', rx', z, rfl, q⟩ := hy
            cases rx'
            exact ⟨.bl z, H', I', rfl, q⟩
        · rw [if_neg z] at hp; exact hp.elim
theorem o_neO {n sub} {tab : Nat → Option BM} (hK : G.K = X.K) (hr : Rm (k + 1) X.A) (KT : KitT G n sub) (ET : EqT G n sub) (T : ∀ c, DuOk X.prog X.w X.mg X.base G k "__eq__" c (tab c)) (TN : ∀ c, (tab c).isSome = true → PySem.W.findIn G.K (.ref (G.cls c)) "__ne__" = some (some (.builtin "object.__ne__"))) : OpR X (compareOp .NotEq) (upR G (eqO true n sub tab)) := by
  rintro pins s σ H x y va ua Q I rx ry ⟨ρ, v, u, S, rv, ru, hh, hp⟩
  simp only [eqO] at hp
  cases q1 : objV v S with
  | none => rw [q1] at hp; exact hp.elim
  | some cf =>
    obtain ⟨c, fs⟩ := cf
    rw [q1] at hp
    simp only at hp
    have Tc := T c
    have Tn := TN c
    cases q2 : tab c with
    | none => rw [q2] at hp; exact hp.elim
    | some g =>
      rw [q2] at hp Tc Tn
      simp only at hp
      obtain ⟨fa, h1, h2, F⟩ := Tc
      have hne := Tn rfl
      rw [hK] at h1 h2 F hne
      cases q3 : kdW u S with
      | none => rw [q3] at hp; exact hp.elim
      | some kd =>
        rw [q3] at hp
        simp only at hp
        by_cases z : nfK n sub c kd = true ∧ c < n
        · rw [if_pos z] at hp
          obtain ⟨a, ox, od, rfl, J⟩ := rel_inst I hh rv q1
          obtain rfl : va = Value.ref a := rx
          have hi : isiK n sub kd (.glo c) ≠ none := by
            cases kd with
            | b a => simp only [isiK, if_pos z.2]; simp
            | c d =>
              have h := z.1
              simp only [nfK, Bool.or_eq_true, beq_iff_eq, Bool.and_eq_true, decide_eq_true_eq] at h
              replace h := h.1
              have hd : d < n := by
                rcases h with h | h
                · rw [h]; exact z.2
                · exact h.1.1
              simp only [isiK, if_pos hd, if_pos z.2]; simp
          obtain ⟨r0, hr0⟩ := Option.ne_none_iff_exists'.mp hi
          have hx : xkK sub kd = false := by
            cases kd with
            | b a => rfl
            | c d =>
              have h := z.1
              simp only [nfK, Bool.and_eq_true, Bool.not_eq_true'] at h
              exact h.2
          have ty := kd_ty KT ru hh q3 hr0 hx
          have hmo := ET.ne c z.2
          rw [hK] at ty hmo
          obtain ⟨P, Z, pz, _⟩ := kit_of I ry ty
          have nf := nf_ok ET q3 z.1
          rw [hK] at nf
          show wpAny (model X.prog X.w) X.A (richCompare .NotEq (.ref a) ua) _ _ _
          refine PySem.W.mp_ne (by have := hr.un; omega) I.kIn J (Z.ty _ _ I.kIn pz) nf hmo hne h1 h2 ?_
          refine wpAny_mono (du_run (vs := [.ref a, y]) (Q := fun y H' => ∃ z, y = .bl z ∧ Q (.bl (!z)) H') F hr.in1 I.env0.in1 I (.cons rfl (.cons ry .nil)) ⟨ρ, [v, u], S, ⟨_, _, rfl, rv, _, _, rfl, ru, rfl⟩, hh, (NoX_post (Post.bind hp)).mono fun w S1 ρ1 H1 s1 h3 q y' ry' => ?_⟩) (fun y' s' hy => ?_) fun _ _ z => z
          · cases w with
            | bl z => cases ry'; exact ⟨z, rfl, q ρ1 H1 .refl h3 _ rfl⟩
            | _ => exact q.elim
          · obtain ⟨x', H', I', rx', z, rfl, q⟩ := hy
            cases rx'
            exact ⟨z, rfl, .bl (!z), H', I', rfl, q⟩
        · rw [if_neg z] at hp; exact hp.elim
end
end Mp
set_option Elab.async false
set_option linter.all false
set_option maxRecDepth 100000
set_option maxHeartbeats 4000000
namespace Mp
open PySem PySem.Spec PyProof.Rows L2
/-- a def whose code object is known: it may make lambdas -/
def FunC (K : PySem.W.Frag) (x qual : Str) (params : Arguments) (body : List Stmt) (scope : Scope) (f : Addr) (fd : FuncData) (c : Addr) : Prop :=
  ∃ (oc : Value) (od : Option Addr) (dV kV doc pm : Value) (an : Option Addr) (ct : Value) (osl : Array (Option Value)), fd = PySem.W.fnOf x qual params body scope dV kV doc pm an (.ref c) ct ∧ K.lookup f = some ⟨oc, od, .func fd, osl⟩ ∧ PySem.W.codeIn K (.ref c) qual = true
section
variable {P : Program} {w : World} {K : PySem.W.Frag} {mg : Str → Option Value} {base : Heap} {G : Gi} {k : Nat} {f : Addr} {fd : FuncData} {ps : List Str}
theorem fn_upC {x qual : Str} {params : Arguments} {body : List Stmt} {scope : Scope} {c : Addr} {N : List Str} {m : Nat} {b : SM} (F : FunC K x qual params body scope f fd c) (S : FnScope N ps scope) (hN : N.length = ps.length + m)
    (hb : ∀ (A : Around) (outer : List Env) (s : Shared) (H : Hp) (E : XK), Rm k (A.deeper (envOfC qual scope s.heap.objs.size f (.ref c))) →
      PSs (cxOf (CX P w) P w K mg base N qual scope f (.ref c) A outer s H E) body (upS G (WxE E) b)) :
    FnO P w K mg base (CX P w) (k + 1) f fd ps (spN G ps.length (fnM m b)) := by
  obtain ⟨oc, od, dV, kV, doc, pm, an, ct, osl, rfl, lk, hcd⟩ := F
  have hlen : ∀ vs H Q E, spN G ps.length (fnM m b) vs H Q E → vs.length = ps.length := fun vs H Q E h => by
    obtain ⟨ρ, ws, S', r, _, hl, _⟩ := h
    rw [← r.len]; exact hl
  refine ⟨hlen, fun A outer s H args us vs Q E hr e0 hbd r h => LamX.run_ofS lk hcd S hr.rm e0 hbd r (hlen _ _ _ _ h) fun hr' => ⟨_, hb A outer s H E ⟨hr', hr.gd⟩, ?_⟩⟩
  obtain ⟨ρ, ws, S', r, hh, hl, hp⟩ := h
  exact ⟨ρ, _, S', relS_start r m (by rw [hN, ← hl, r.len]), hh, PostS.run hp⟩
theorem takes_lam {X : Cx} {A : Around} {outer : List Env} {s : Shared} {H : Hp} {E : XK} {scope : Scope} {f c' : Addr} : Takes (LamX.lamCx X A outer s H E scope f c') (WxE E) := takes_of rfl rfl rfl rfl
end
/-! ### slots that nobody reads -/
theorem ret_ind {e : EM} {ls ls' : LSt} {S : Sto} (h : e ls S = e ls' S) : runB (sRet e ls S) = runB (sRet e ls' S) := by
  simp only [sRet]
  rw [h]
  cases e ls' S <;> rfl
theorem ifret_ind {t : TM} {e : EM} {m : SM} {ls ls' : LSt} {S : Sto} (h : t ls S = t ls' S) (he : ∀ S, e ls S = e ls' S) (hm : ∀ S, runB (m ls S) = runB (m ls' S)) : runB (sSeq (sIf t (sRet e) sNop) m ls S) = runB (sSeq (sIf t (sRet e) sNop) m ls' S) := by
  simp only [sSeq, sIf, sRet, sNop]
  rw [h]
  cases t ls' S with
  | exc c fs S1 => rfl
  | stuck => rfl
  | ok k S1 =>
    simp only [toS]
    cases k with
    | true =>
      simp only [if_true]
      rw [he]
      cases e ls' S1 <;> rfl
    | false => exact hm S1
/-! ### exceptions' classes among one another -/
structure XmT (G : Gb) (xc : Nat → Bool) (sub : Nat → Nat → Bool) : Prop where
  ok : ∀ c d, xc c = true → xc d = true → PySem.W.exmOne G.K (.ref (G.cls c)) (.ref (G.cls d)) = some (sub c d)
@[simp] def xmS (xc : Nat → Bool) (sub : Nat → Nat → Bool) (d : Nat) : Nat → Option Bool := fun c => if xc c = true ∧ xc d = true then some (sub c d) else none
theorem XmT.s {G : Gb} {xc sub} (T : XmT G xc sub) (D : Nat) : ∀ d b, xmS xc sub D d = some b → PySem.W.exmOne G.K (.ref (G.cls d)) (.ref (G.cls D)) = some b := fun d b e => by
  unfold xmS at e
  by_cases z : xc d = true ∧ xc D = true
  · rw [if_pos z] at e; cases e; exact T.ok d D z.1 z.2
  · rw [if_neg z] at e; cases e
end Mp
set_option Elab.async false
set_option linter.all false
set_option maxRecDepth 100000
set_option maxHeartbeats 4000000
namespace Mp
open PySem PySem.Spec PyProof.Rows L2
/-! ### calls with keywords -/
/-- the parameters' values, by their places among the positional values, the keywords' values, the defaults -/
def pick {α : Type} (is : List Nat) (l : List α) : List α := is.filterMap (l[·]?)
theorem RelWs.pick {G : Gb} {ρ H} {ws : List W} {xs : List V} (r : RelWs G ρ H ws xs) : ∀ is : List Nat, RelWs G ρ H (pick is ws) (pick is xs)
  | [] => rfl
  | i :: is => by
    have ih := RelWs.pick r is
    unfold Mp.pick at ih ⊢
    cases q : ws[i]? with
    | none =>
      have : xs[i]? = none := by
        rw [List.getElem?_eq_none_iff] at q ⊢
        rw [← r.len]; exact q
      rw [List.filterMap_cons_none (by simpa using q), List.filterMap_cons_none (by simpa using this)]
      exact ih
    | some w =>
      obtain ⟨x, hx, rx⟩ := r.get q
      rw [List.filterMap_cons_some (by simpa using q), List.filterMap_cons_some (by simpa using hx)]
      exact ⟨x, _, rfl, rx, ih⟩
theorem paired_get {α β : Type} {F : α → β → Prop} : ∀ {l : List α} {m : List β}, Paired F l m → ∀ i : Nat, (l[i]? = none ∧ m[i]? = none) ∨ ∃ a b, l[i]? = some a ∧ m[i]? = some b ∧ F a b
  | _, _, .nil, i => .inl ⟨by simp, by simp⟩
  | _, _, .cons h t, 0 => .inr ⟨_, _, by simp, by simp, h⟩
  | _, _, .cons h t, i + 1 => by
    have := paired_get t i
    simpa using this
theorem vals_pick {xs : List V} {us : List Value} (r : Vals xs us) : ∀ is : List Nat, Vals (pick is xs) (pick is us)
  | [] => .nil
  | i :: is => by
    have ih := vals_pick r is
    unfold Mp.pick at ih ⊢
    rcases paired_get r i with ⟨h1, h2⟩ | ⟨a, b, h1, h2, h3⟩
    · rw [List.filterMap_cons_none (by simpa using h1), List.filterMap_cons_none (by simpa using h2)]
      exact ih
    · rw [List.filterMap_cons_some (by simpa using h1), List.filterMap_cons_some (by simpa using h2)]
      exact .cons h3 ih
/-- a call with n values by place and the keywords ks: the places is tell which value each parameter has -/
abbrev KAt (K : PySem.W.Frag) (fd : FuncData) (ps : List Str) (n : Nat) (ks : List Str) (is : List Nat) (dvs : List V) : Prop :=
  ∃ its : List Value, KBn K fd ps n ks (fun us ws => pick is (us ++ (ws ++ its))) (fun vs zs => pick is (vs ++ (zs ++ dvs)))
section
variable {K : PySem.W.Frag} {x qual : Str} {params : Arguments} {body : List Stmt} {scope : Scope} {dvs : List V} {f : Addr} {fd : FuncData} {ps : List Str}
theorem kat_none (F : FunD K x qual params body scope [] [] f fd) (n : Nat) (ks : List Str) (is : List Nat)
    (h : ∀ (kV doc pm : Value) (an : Option Addr) (cdv ct : Value) (us ws : List Value), us.length = n → ws.length = ks.length → bindArgs (PySem.W.fnOf x qual params body scope .none kV doc pm an cdv ct) ⟨us, ks.zip ws⟩ = pure (ps.zip (pick is (us ++ (ws ++ []))))) : KAt K fd ps n ks is [] := by
  have ⟨_, _, _, _, _, _, _, _, _, _, isF, _, _, noD, _⟩ := F.ex
  subst isF
  match noD with
  | .inl ⟨_, e⟩ => exact ⟨[], fun s us ws _ l1 l2 => .of_eq (e ▸ h _ _ _ _ _ _ us ws l1 l2), fun r1 r2 => vals_pick (r1.append (r2.append .nil)) is⟩
  | .inr ⟨e, _⟩ => exact absurd rfl e
theorem kat_some (F : FunD K x qual params body scope dvs [] f fd) (n : Nat) (ks : List Str) (is : List Nat) (hd : dvs ≠ [])
    (h : ∀ (T : Addr) (kV doc pm : Value) (an : Option Addr) (cdv ct : Value) (us its ws : List Value), us.length = n → its.length = dvs.length → ws.length = ks.length →
      ∃ k, bindArgs (PySem.W.fnOf x qual params body scope (.ref T) kV doc pm an cdv ct) ⟨us, ks.zip ws⟩ = seqItems? (.ref T) >>= k ∧ k (some its.toArray) = pure (ps.zip (pick is (us ++ (ws ++ its))))) : KAt K fd ps n ks is dvs :=
  F.kbindsD n ks (fun us its ws => pick is (us ++ (ws ++ its))) hd (fun r1 r2 r3 => vals_pick (r1.append (r3.append r2)) is) h
end
section
variable {X : Cx} {G : Gi} {Wx : WX} {a b c e o : Expr} {fa fb fc : EM} {pos pos' p p2 apos kpos : Pos} {es : List Expr} {fs fk : AM} {x f m : Str} {k : Nat} {kws : List Keyword} {nmk : Option Str}
/-- the keywords' values -/
structure KW (X : Cx) (G : Gi) (Wx : WX) (kws : List Keyword) (f : AM) : Prop where
  pk : PK X kws (upA G Wx f)
theorem PK.imp {X : Cx} {kws : List Keyword} {t t' : TA} (h : ∀ σ H Q, t' σ H Q → t σ H Q) (q : PK X kws t) : PK X kws t' := ⟨fun pos pins s σ H Q I z => q.run pos pins s σ H Q I (h σ H Q z)⟩
theorem k_nil : PK X [] (upA G Wx aNil) := PK.imp (fun σ H Q ⟨ρ, ls, S, hs, hh, hp⟩ => hp ρ H .refl hh [] rfl) pk_nil
theorem k_cons (h : PE X a (upE G Wx fa)) (h2 : PK X kws (upA G Wx fs)) : PK X (⟨nmk, a, kpos⟩ :: kws) (upA G Wx (aCons fa fs)) :=
  PK.imp (fun σ H Q ⟨ρ, ls, S, hs, hh, hp⟩ => ⟨ρ, ls, S, hs, hh, (Post.bind hp).mono fun v S1 ρ1 H1 s1 h1 q x rx => ⟨ρ1, ls, S1, hs.step s1, h1, (Post.bind q).mono fun vs S2 ρ2 H2 s2 h2 q2 xs rs => q2 ρ2 H2 .refl h2 (x :: xs) ⟨x, xs, rfl, rx.step s2, rs⟩⟩⟩) (pk_cons h h2)
/-- C(e, .., k = v, ..) -/
@[simp] def eNewK (fin : Nat → Nat → Nat → M W) (c n np nk : Nat) (is : List Nat) (ds : List W) (init : BM) (g gk : AM) : EM := fun ls S => (g ls S).bind fun vs S1 => (gk ls S1).bind fun zs S2 => if vs.length = np ∧ zs.length = nk then
  (init (pick is (.loc S2.length :: vs ++ (zs ++ ds))) (S2 ++ [.obj c []])).bind fun v S3 => match v with
    | .non => fin c n S2.length S3
    | _ => .stuck else .stuck
theorem run_mkN {pins : List (Addr × Obj)} {σ : L2.St} {H : Hp} {s : Shared} {us ws : List Value} {vs zs : List V} {Q : VK} {C f : Addr} {fd : FuncData} {ps ks : List Str} {sp : Sp} {is : List Nat} {dvs : List V} {n : Nat} (tk : Takes X Wx) (M : Mk X.K C f) (F : FnO X.prog X.w X.K X.mg X.base (CX X.prog X.w) k f fd ps sp) (hr : Rm (k + 1) X.A) (hb : KAt X.K fd ps (n + 1) ks is dvs) (I : Inv X pins σ H s) (r : Vals vs us) (rz : Vals zs ws) (l1 : vs.length = n) (l2 : zs.length = ks.length)
    (h : ∀ x dx, H x = none → H dx = none → dx ≠ x → sp (pick is (.ref x :: vs ++ (zs ++ dvs))) (upd (upd H dx (.own x)) x (.ins C dx [])) (fun v H2 => v = .non ∧ Q (.ref x) H2) fun c d H' => Wx c d σ H') :
    wpAny (model X.prog X.w) X.A (call (.ref C) us (ks.zip ws)) (EP X pins σ Q) X.xe s := by
  have ⟨_, hb⟩ := hb
  have J := Inv.made (C := C) I
  have rv : Vals (V.ref (s.heap.objs.size + 1) :: vs) (Value.ref (s.heap.objs.size + 1) :: us) := .cons rfl r
  have does := F.run _ X.stack _ _ ⟨_, ks.zip ws⟩ _ _ _ _ (hr.make C us (ks.zip ws)) (J.env0.make C us (ks.zip ws)) (hb.to _ _ ws J.kIn (rv.length.symm.trans (congrArg Nat.succ l1)) (rz.length.symm.trans l2)) (hb.rel rv rz)
    (h _ _ (I.hok.fresh (Nat.le_succ _)) (I.hok.fresh (Nat.le_refl _)) (Nat.ne_of_lt (Nat.lt_succ_self _)))
  refine wpAny_call (make_map (f := f) I.kIn M.makes M.init (beq_iff_eq.mp M.fn) (codeAny_mono does fun
    | .error e, s', q => passAt tk σ pins _ _ e s' J q
    | .ok (.ret _), s', q => ?_
    | .ok .next, _, q | .ok .brk, _, q | .ok .cont, _, q => False.elim q))
  obtain ⟨_, H', K, rn, rfl, q⟩ := J.after q
  exact ⟨rn, V.ref (s.heap.objs.size + 1), H', K, rfl, q⟩
theorem newK_spec {cn n np nk N : Nat} {is : List Nat} {ds : List W} {dvs : List V} {g : BM} {fin : Nat → Nat → Nat → M W} {ρ1 : Rho} {H1 : Hp} {S1 : Sto} {ws zs : List W} {vs ys : List V} {Q : VK} {E : XK} (hfin : ∀ {ρ H S l a Q E}, RelH G ρ H S → ρ l = some a → Post G ρ H (fin cn n l S) (QW G Q) E → Q (.ref a) H)
    (rd : ∀ ρ H, RelWs G ρ H ds dvs) (hN : is.length = N) (hbd : ∀ i ∈ is, i < 1 + np + nk + ds.length) (rs : RelWs G ρ1 H1 ws vs) (rz : RelWs G ρ1 H1 zs ys) (h1 : RelH G ρ1 H1 S1) (z1 : ws.length = np) (z2 : zs.length = nk)
    (q : Post G ρ1 H1 ((g (pick is (.loc S1.length :: ws ++ (zs ++ ds))) (S1 ++ [.obj cn []])).bind fun v S3 => match v with | .non => fin cn n S1.length S3 | _ => .stuck) (QW G Q) E) (x dx : Addr) (hx : H1 x = none) (hd : H1 dx = none) (ne : dx ≠ x) :
    spN G N g (pick is (.ref x :: vs ++ (ys ++ dvs))) (upd (upd H1 dx (.own x)) x (.ins (G.cls cn) dx [])) (fun v H2 => v = .non ∧ Q (.ref x) H2) E := by
  obtain ⟨st, hm2⟩ := made_H (c := cn) h1 hx hd ne
  have r0 : RelWs G (ext ρ1 S1.length x) (upd (upd H1 dx (.own x)) x (.ins (G.cls cn) dx [])) (.loc S1.length :: ws ++ (zs ++ ds)) (.ref x :: vs ++ (ys ++ dvs)) :=
    RelWs.append (ws := .loc S1.length :: ws) (xs := .ref x :: vs) ⟨_, _, rfl, ⟨x, ext_same, rfl⟩, rs.step st⟩ ((rz.step st).append (rd _ _))
  have hlen : (.loc S1.length :: ws ++ (zs ++ ds)).length = 1 + np + nk + ds.length := by simp [z1, z2]; omega
  have hpl : (pick is (.loc S1.length :: ws ++ (zs ++ ds))).length = N := by
    rw [← hN]
    have : ∀ js : List Nat, (∀ i ∈ js, i < (.loc S1.length :: ws ++ (zs ++ ds)).length) → (pick js (.loc S1.length :: ws ++ (zs ++ ds))).length = js.length := by
      intro js
      induction js with
      | nil => intro _; rfl
      | cons i js ih =>
        intro h
        unfold pick at ih ⊢
        rw [List.filterMap_cons_some (List.getElem?_eq_getElem (h i List.mem_cons_self))]
        simp only [List.length_cons]
        rw [ih fun j hj => h j (List.mem_cons_of_mem _ hj)]
    exact this is fun i hi => by rw [hlen]; exact hbd i hi
  refine ⟨ext ρ1 S1.length x, _, S1 ++ [.obj cn []], r0.pick is, hm2, hpl, (Post.bind (Post.step st q)).mono fun v S2 ρ2 H2 s2 h2 q2 y ry => ?_⟩
  cases v with
  | non => exact ⟨ry, hfin h2 (s2.sub _ _ ext_same) q2⟩
  | _ => exact q2.elim
theorem e_newK0 {cn n N : Nat} {is : List Nat} {ds : List W} {dvs : List V} {f : Addr} {fd : FuncData} {ps ks : List Str} {g : BM} {fin : Nat → Nat → Nat → M W} (hfin : ∀ {ρ H S l a Q E}, RelH G ρ H S → ρ l = some a → Post G ρ H (fin cn n l S) (QW G Q) E → Q (.ref a) H) (rd : ∀ ρ H, RelWs G ρ H ds dvs) (hN : is.length = N) (hbd : ∀ i ∈ is, i < 1 + 0 + ks.length + ds.length)
    (tk : Takes X Wx) (hK : G.K = X.K) (M : Mk G.K (G.cls cn) f) (F : FnO X.prog X.w X.K X.mg X.base (CX X.prog X.w) k f fd ps (spN G N g)) (hr : Rm (k + 1) X.A) (hb : KAt X.K fd ps (0 + 1) ks is dvs) (hg : Gl X x) (hm : X.mg x = some (.ref (G.cls cn))) (hk : PK X kws (upA G Wx fk))
    (hall : (backToKw pos (keywordEach kws X.env)).all (·.1.isSome) = true := by rfl) (hks : (backToKw pos (keywordEach kws X.env)).filterMap (·.1) = ks := by rfl) (hdb : (x == ("__debug__" : Str)) = false := by decide)
    (hpl : ((backTo pos (starEach [] X.env)).any (·.1) || (backToKw pos (keywordEach kws X.env)).any (·.1.isNone)) = false := by rfl) :
    PE X (.Call (.Name x p) [] kws pos) (upE G Wx (eNewK fin cn n 0 ks.length is ds g aNil fk)) := by
  refine ⟨fun pins s σ H Q I ⟨ρ, ls, S, hs, hh, hp⟩ => ?_⟩
  have M' : Mk X.K (G.cls cn) f := hK ▸ M
  have hp : Post G ρ H ((fk ls S).bind fun zs S1 => if ([] : List W).length = 0 ∧ zs.length = ks.length then ((g (pick is (.loc S1.length :: [] ++ (zs ++ ds))) (S1 ++ [.obj cn []])).bind fun v S3 => match v with | .non => fin cn n S1.length S3 | _ => .stuck) else .stuck) (QW G Q) (fun c d H' => Wx c d σ H') := hp
  refine wpAny_Call_Name_kw (ld_glob I hg hm ?_ hdb)
  refine PySem.W.callWith_KW0 (h₀ := X.base) I.ok.mod.kin M'.kp hall (thn (hk.run pos pins s σ H (fun ys H1 => ∃ ρ1 zs S1, RelWs G ρ1 H1 zs ys ∧ RelH G ρ1 H1 S1 ∧ Post G ρ1 H1 (if ([] : List W).length = 0 ∧ zs.length = ks.length then ((g (pick is (.loc S1.length :: [] ++ (zs ++ ds))) (S1 ++ [.obj cn []])).bind fun v S3 => match v with | .non => fin cn n S1.length S3 | _ => .stuck) else .stuck) (QW G Q) fun c d H' => Wx c d σ H') I ⟨ρ, ls, S, hs, hh, (Post.bind hp).mono fun zs S1 ρ1 H1 s1 h1 q ys rz => ⟨ρ1, zs, S1, rz, h1, q⟩⟩) fun ws s1 ⟨ys, H1, I1, r, ρ1, zs, S1, rz, h1, q⟩ => ⟨I1.kIn, ?_⟩) hpl
  rw [hks]
  by_cases z : ([] : List W).length = 0 ∧ zs.length = ks.length
  · rw [if_pos z] at q
    exact run_mkN (vs := []) (us := []) tk M' F hr hb I1 .nil r rfl (by rw [← rz.len]; exact z.2) fun x dx hx hd ne => newK_spec (np := 0) (nk := ks.length) hfin rd hN hbd (ws := []) (vs := []) rfl rz h1 rfl z.2 q x dx hx hd ne
  · rw [if_neg z] at q; exact q.elim
theorem e_newK {cn n N np : Nat} {is : List Nat} {ds : List W} {dvs : List V} {f : Addr} {fd : FuncData} {ps ks : List Str} {g : BM} {fin : Nat → Nat → Nat → M W} (hfin : ∀ {ρ H S l a Q E}, RelH G ρ H S → ρ l = some a → Post G ρ H (fin cn n l S) (QW G Q) E → Q (.ref a) H) (rd : ∀ ρ H, RelWs G ρ H ds dvs) (hN : is.length = N) (hbd : ∀ i ∈ is, i < 1 + np + ks.length + ds.length)
    (tk : Takes X Wx) (hK : G.K = X.K) (M : Mk G.K (G.cls cn) f) (F : FnO X.prog X.w X.K X.mg X.base (CX X.prog X.w) k f fd ps (spN G N g)) (hr : Rm (k + 1) X.A) (hb : KAt X.K fd ps (np + 1) ks is dvs) (hg : Gl X x) (hm : X.mg x = some (.ref (G.cls cn))) (ha : PA X (e :: es) (upA G Wx fs)) (hk : PK X kws (upA G Wx fk))
    (hall : (backToKw pos (keywordEach kws X.env)).all (·.1.isSome) = true := by rfl) (hks : (backToKw pos (keywordEach kws X.env)).filterMap (·.1) = ks := by rfl) (hdb : (x == ("__debug__" : Str)) = false := by decide) (he : starEach (e :: es) X.env = (false, eval e X.env) :: starEach es X.env := by rfl)
    (hpl : ((backTo pos (starEach (e :: es) X.env)).any (·.1) || (backToKw pos (keywordEach kws X.env)).any (·.1.isNone)) = false := by rfl) :
    PE X (.Call (.Name x p) (e :: es) kws pos) (upE G Wx (eNewK fin cn n np ks.length is ds g fs fk)) := by
  refine ⟨fun pins s σ H Q I ⟨ρ, ls, S, hs, hh, hp⟩ => ?_⟩
  have M' : Mk X.K (G.cls cn) f := hK ▸ M
  refine wpAny_Call_Name_kw (ld_glob I hg hm ?_ hdb)
  refine PySem.W.callWith_KW (h₀ := X.base) I.ok.mod.kin M'.kp hall (thn (ha.run pos pins s σ H (fun vs H1 => ∃ ρ1 ws S1, RelWs G ρ1 H1 ws vs ∧ RelS G ρ1 H1 ls σ ∧ RelH G ρ1 H1 S1 ∧ Post G ρ1 H1 ((fk ls S1).bind fun zs S2 => if ws.length = np ∧ zs.length = ks.length then ((g (pick is (.loc S2.length :: ws ++ (zs ++ ds))) (S2 ++ [.obj cn []])).bind fun v S3 => match v with | .non => fin cn n S2.length S3 | _ => .stuck) else .stuck) (QW G Q) fun c d H' => Wx c d σ H') I ⟨ρ, ls, S, hs, hh, (Post.bind hp).mono fun ws S1 ρ1 H1 s1 h1 q vs rs => ⟨ρ1, ws, S1, rs, hs.step s1, h1, q⟩⟩) fun us s1 ⟨vs, H1, I1, r, ρ1, ws, S1, rs, hs1, h1, q⟩ => ?_) hpl he
  refine thn (hk.run pos pins s1 σ H1 (fun ys H2 => ∃ ρ2 zs S2, RelWs G ρ2 H2 ws vs ∧ RelWs G ρ2 H2 zs ys ∧ RelH G ρ2 H2 S2 ∧ Post G ρ2 H2 (if ws.length = np ∧ zs.length = ks.length then ((g (pick is (.loc S2.length :: ws ++ (zs ++ ds))) (S2 ++ [.obj cn []])).bind fun v S3 => match v with | .non => fin cn n S2.length S3 | _ => .stuck) else .stuck) (QW G Q) fun c d H' => Wx c d σ H') I1 ⟨ρ1, ls, S1, hs1, h1, (Post.bind q).mono fun zs S2 ρ2 H2 s2 h2 q2 ys rz => ⟨ρ2, zs, S2, rs.step s2, rz, h2, q2⟩⟩) fun wz s2 ⟨ys, H2, I2, r2, ρ2, zs, S2, rs2, rz, h2, q2⟩ => ⟨I2.kIn, ?_⟩
  rw [hks]
  by_cases z : ws.length = np ∧ zs.length = ks.length
  · rw [if_pos z] at q2
    exact run_mkN tk M' F hr hb I2 r r2 (by rw [← rs.len]; exact z.1) (by rw [← rz.len]; exact z.2) fun x dx hx hd ne => newK_spec (np := np) (nk := ks.length) hfin rd hN hbd rs2 rz h2 z.1 z.2 q2 x dx hx hd ne
  · rw [if_neg z] at q2; exact q2.elim
end
end Mp
set_option Elab.async false
set_option linter.all false
set_option maxRecDepth 100000
set_option maxHeartbeats 4000000
namespace Mp
open PySem PySem.Spec PyProof.Rows L2
section
variable {X : Cx} {G : Gi} {Wx : WX} {k : Nat} {pos : Pos}
/-! ### {} -/
@[simp] def eDn : EM := fun ls S => .ok (.loc S.length) (S ++ [.dct []])
theorem e_dn : PE X (.Dict [] [] pos) (upE G Wx eDn) := PE.imp (fun σ H Q ⟨ρ, ls, S, hs, hh, hp⟩ p np =>
  hp _ _ (Step.new_ hh np) (hh.new_ np ⟨p, [], ext_same, upd_same, rfl, rfl⟩) _ ⟨p, ext_same, rfl⟩) pe_dnewK
/-! ### repr of data -/
mutual
theorem plain_noDict : ∀ d : PyData, d.plain = true → d.hasDict = false
  | .none, _ => rfl
  | .bool _, _ => rfl
  | .int _, _ => rfl
  | .str _, _ => rfl
  | .list xs, h => plain_noDicts xs h
  | .tuple xs, h => plain_noDicts xs h
  | .dict _, h => by cases h
theorem plain_noDicts : ∀ l : List PyData, PyData.plainAll l = true → PyData.hasDictAll l = false
  | [], _ => rfl
  | x :: l, h => by
    simp only [PyData.plainAll, Bool.and_eq_true] at h
    simp only [PyData.hasDictAll, plain_noDict x h.1, plain_noDicts l h.2, Bool.or_self]
end
@[simp] def shwD : PyData → Sto → Res W := fun d S => match d with
  | .list _ => if d.showable = true ∧ d.shown.length ≤ big then .ok (.str d.shown) S else .stuck
  | .tuple _ => if d.showable = true ∧ d.shown.length ≤ big then .ok (.str d.shown) S else .stuck
  | _ => .stuck
@[simp] def reprD : W → M W := fun v S => match dat S 40 v with
  | some d => shwD d S
  | none => .stuck
@[simp] def reprI : W → M W := fun v S => match v with
  | .int i => if i.natAbs.log2 < 1920 then .ok (.str (toString i)) S else .stuck
  | _ => .stuck
theorem c_reprD (hK : G.K = X.K) (hr : Rm k X.A) : CallR X (.builtin "repr") (upC G (b1 reprD)) := by
  refine c_b1 ?_
  rintro pins s σ H xs us Q I r ⟨x, rfl, ρ, v, S, rv, hh, hp⟩
  obtain ⟨u, rfl, ru⟩ : ∃ u, us = [u] ∧ RelV x u := by
    cases r with
    | cons h t => cases t; exact ⟨_, rfl, h⟩
  simp only [reprD] at hp
  cases q1 : dat S 40 v with
  | none => rw [q1] at hp; exact hp.elim
  | some d =>
    rw [q1] at hp
    simp only at hp
    obtain ⟨d1, d2, d3⟩ := dat_dp hK hh 40 v x d rv q1
    obtain ⟨as, r1⟩ := Dp.reads I d x u d1 ru
    have go : ∀ a, u = .ref a → d.showable = true ∧ d.shown.length ≤ big → Post G ρ H (.ok (.str d.shown) S) (QW G Q) NoE → wpAny (model X.prog X.w) X.A (call (.builtin "repr") [u]) (EP X pins σ Q) X.xe s := by
      rintro a rfl ⟨z1, z2⟩ hq
      refine PySem.repr_of_reads' r1 z1 (fun z => by rw [plain_noDict d d2] at z; cases z) hr.gd ?_ (fun _ _ z => z) (fun h' u tk hk => ⟨.str d.shown, H, I.kept (t' := tk) hk, ⟨u, rfl⟩, hq ρ H .refl hh _ rfl⟩) (le_line z2)
      have := hr.units
      omega
    cases d with
    | list ds =>
      have hp : Post G ρ H (if (PyData.list ds).showable = true ∧ (PyData.list ds).shown.length ≤ big then Res.ok (W.str (PyData.list ds).shown) S else .stuck) (QW G Q) NoE := hp
      by_cases z : (PyData.list ds).showable = true ∧ (PyData.list ds).shown.length ≤ big
      · rw [if_pos z] at hp
        cases d1 with
        | lst _ _ => exact go _ ru z hp
      · rw [if_neg z] at hp; exact hp.elim
    | tuple ds =>
      have hp : Post G ρ H (if (PyData.tuple ds).showable = true ∧ (PyData.tuple ds).shown.length ≤ big then Res.ok (W.str (PyData.tuple ds).shown) S else .stuck) (QW G Q) NoE := hp
      by_cases z : (PyData.tuple ds).showable = true ∧ (PyData.tuple ds).shown.length ≤ big
      · rw [if_pos z] at hp
        cases d1 with
        | tup _ _ => exact go _ ru z hp
      · rw [if_neg z] at hp; exact hp.elim
    | _ => exact hp.elim
theorem c_reprI : CallR X (.builtin "repr") (upC G (b1 reprI)) := by
  refine c_b1 (CallR.imp ?_ SkE.call_repr_int)
  rintro xs H Q ⟨x, rfl, ρ, v, S, rv, hh, hp⟩
  cases v with
  | int i =>
    simp only [reprI] at hp
    by_cases z : i.natAbs.log2 < 1920
    · rw [if_pos z] at hp
      exact ⟨i, by cases rv; rfl, z, hp ρ H .refl hh _ rfl⟩
    · rw [if_neg z] at hp; exact hp.elim
  | _ => exact hp.elim
theorem c_repr (hK : G.K = X.K) (hr : Rm k X.A) : CallR X (.builtin "repr") (upC G (elsB (b1 reprI) (b1 reprD))) := c_els c_reprI (c_reprD hK hr)
end
end Mp
set_option Elab.async false
set_option linter.all false
set_option maxRecDepth 100000
set_option maxHeartbeats 4000000
namespace PySem.W
open PySem PySem.Calls PyProof.Rows SeqAt MeetsSeq
section
variable {prog : Program} {w : World} {A : Around} {E : Value → Shared → Prop} {s : Shared} {K : Frag} {x C dx : Addr} {R : Result → Shared → Prop}
/-- numbers, bools and texts say nothing of an own object -/
theorem ri_flat (x C dx : Addr) : (∀ b u, Meets (Builtin.«int.__eq__» ⟨[.int b u, .ref x], []⟩) (fun _ R s => s.heap.get? x = some (instObj C dx) ∧ R (.ok (.ret .notImplemented)) s)) ∧
    (∀ b, Meets (Builtin.«int.__eq__» ⟨[.bool b, .ref x], []⟩) (fun _ R s => s.heap.get? x = some (instObj C dx) ∧ R (.ok (.ret .notImplemented)) s)) ∧
    ∀ b u, Meets (Builtin.«str.__eq__» ⟨[.str b u, .ref x], []⟩) (fun _ R s => s.heap.get? x = some (instObj C dx) ∧ R (.ok (.ret .notImplemented)) s) := by
  refine ⟨fun b u => ?_, fun b => ?_, fun b u => ?_⟩
  all_goals
    refine .of_wp fun prog w A R s told => ?_
    obtain ⟨heap, gens, drawn, toks, os⟩ := s
    wp_walk using wpAny_loadPart' told.1, wpAny_load told.1
    exact ⟨_, rfl, told.2⟩
theorem ri_int (b : Int) (u : Tok) (x C dx : Addr) : Meets (Builtin.«int.__eq__» ⟨[.int b u, .ref x], []⟩) (fun _ R s => s.heap.get? x = some (instObj C dx) ∧ R (.ok (.ret .notImplemented)) s) := (ri_flat x C dx).1 b u
theorem ri_bool (b : Bool) (x C dx : Addr) : Meets (Builtin.«int.__eq__» ⟨[.bool b, .ref x], []⟩) (fun _ R s => s.heap.get? x = some (instObj C dx) ∧ R (.ok (.ret .notImplemented)) s) := (ri_flat x C dx).2.1 b
theorem ri_str (b : Str) (u : Tok) (x C dx : Addr) : Meets (Builtin.«str.__eq__» ⟨[.str b u, .ref x], []⟩) (fun _ R s => s.heap.get? x = some (instObj C dx) ∧ R (.ok (.ret .notImplemented)) s) := (ri_flat x C dx).2.2 b u
/-- neither do lists and tuples of one whose class is no base's of theirs -/
theorem ri_seq (l x C dx : Addr) (items : Array Value) (n : Nat) (dd : Option Addr) (sl : Array (Option Value)) (K : Frag) :
    (subIn K (.ref C) (.type "list") = some false → Meets (Builtin.«list.__eq__» ⟨[.ref l, .ref x], []⟩) (fun _ R s => s.heap.get? l = some { cls := .type "list", dict := dd, data := .seq items n, slots := sl } ∧ s.heap.get? x = some (instObj C dx) ∧ K.In s.heap ∧ R (.ok (.ret .notImplemented)) s)) ∧
    (subIn K (.ref C) (.type "tuple") = some false → Meets (Builtin.«tuple.__eq__» ⟨[.ref l, .ref x], []⟩) (fun _ R s => s.heap.get? l = some { cls := .type "tuple", dict := dd, data := .seq items n, slots := sl } ∧ s.heap.get? x = some (instObj C dx) ∧ K.In s.heap ∧ R (.ok (.ret .notImplemented)) s)) := by
  refine ⟨fun other => ?_, fun other => ?_⟩
  all_goals
    refine .of_wp fun prog w A R s ⟨atL, atX, kin, told⟩ => ?_
    have no := looks_subIn (M := model prog w) kin other
    obtain ⟨heap, gens, drawn, toks, os⟩ := s
    wp_walk using wpAny_loadPart' atL, wpAny_loadPart' atX, no.here
    exact ⟨_, rfl, told⟩
theorem ri_list (l x C dx : Addr) (items : Array Value) (n : Nat) (dd : Option Addr) (sl : Array (Option Value)) (K : Frag) (hsub : subIn K (.ref C) (.type "list") = some false) :
    Meets (Builtin.«list.__eq__» ⟨[.ref l, .ref x], []⟩) (fun _ R s => s.heap.get? l = some { cls := .type "list", dict := dd, data := .seq items n, slots := sl } ∧ s.heap.get? x = some (instObj C dx) ∧ K.In s.heap ∧ R (.ok (.ret .notImplemented)) s) := (ri_seq l x C dx items n dd sl K).1 hsub
theorem ri_tup (l x C dx : Addr) (items : Array Value) (n : Nat) (dd : Option Addr) (sl : Array (Option Value)) (K : Frag) (hsub : subIn K (.ref C) (.type "tuple") = some false) :
    Meets (Builtin.«tuple.__eq__» ⟨[.ref l, .ref x], []⟩) (fun _ R s => s.heap.get? l = some { cls := .type "tuple", dict := dd, data := .seq items n, slots := sl } ∧ s.heap.get? x = some (instObj C dx) ∧ K.In s.heap ∧ R (.ok (.ret .notImplemented)) s) := (ri_seq l x C dx items n dd sl K).2 hsub
/-- a == x: a's own way says nothing, x's __eq__ is asked -/
theorem mp_eqr {a : Value} {T id : String} {f : Addr} {od : Option Obj} {ox : Obj} {Q : Value → Shared → Prop} (hu : A.units < cLine) (hT : s.TypeIs a T) (hsl : Slot T "__eq__" id)
    (hdec : wpAny (model prog w) A (call (.builtin id) [a, .ref x]) (fun v s' => v = .notImplemented ∧ s' = s) E s)
    (X : K.In s.heap) (I : InstAt s.heap x ox C od) (hsub : subIn K (.ref C) (.type T) = some false) (hs : findIn K (.ref C) "__eq__" = some (some (.ref f))) (hf : isFn K (.ref f) = true)
    (h : wpAny (model prog w) A (call (.ref f) [.ref x, a]) (CmpBack Q) E s) : wpAny (model prog w) A (richCompare .Eq a (.ref x)) Q E s := by
  have two : wpAny (model prog w) A (tryCompare (.ref x) "__eq__" a) (fun r s' => ∃ v, r = some v ∧ Q v s') E s := by
    unfold tryCompare
    refine wpAny_bind (ifBound_K X I hs hf (wpAny_mono h (fun r1 s1 q1 => ?_) fun _ _ e => e))
    cases r1 <;> first | exact q1.elim | exact wpAny_pure ⟨_, rfl, q1⟩
  unfold richCompare
  simp only [hT.oneThing_none]
  refine wpAny_holding (wpAny_bind (wpAny_cRoomFor hu ?_))
  refine wpAny_bind (wpAny_typeOf hT (wpAny_bind (I.type.here ?_)))
  have ne : (Value.type T != Value.ref C) = true := rfl
  simp only [ne, if_true]
  refine wpAny_bind ((looks_subIn X hsub).here ?_)
  simp only [Bool.false_eq_true, if_false, Bool.not_false, if_true]
  refine wpAny_bind (m := tryCompare a _ (.ref x)) (wpAny_tryCompare_declines hT hsl (wpAny_mono hdec (fun v s' z => ⟨z.1, ?_⟩) fun _ _ e => e))
  obtain ⟨_, rfl⟩ := z
  refine wpAny_bind (m := tryCompare (.ref x) _ a) (wpAny_mono two (fun r s' z => ?_) fun _ _ e => e)
  obtain ⟨v, rfl, hq⟩ := z
  exact wpAny_pure hq
end
end PySem.W
namespace Mp
open PySem PySem.Spec PyProof.Rows L2 PySem.SeqAt PySem.Calls
section
variable {X : Cx} {G : Gi} {Wx : WX} {k : Nat} {f : Addr}
/-- data that an own object is compared with from the left -/
@[simp] def kdB : W → Sto → Bool
  | .non, _ => true
  | .bl _, _ => true
  | .int _, _ => true
  | .str _, _ => true
  | .tup _, _ => true
  | .loc l, S => match S[l]? with
    | some (.lst _) => true
    | _ => false
  | _, _ => false
@[simp] def eqR (n : Nat) (tab : Nat → Option BM) : W → W → M W := fun v u S => match objV u S with
  | some (c, _) => match tab c with
    | some g => if kdB v S = true ∧ c < n then (NoX (g [u, v] S)).bind fun r S' => match r with
        | .bl z => .ok (.bl z) S'
        | _ => .stuck else .stuck
    | none => .stuck
  | none => .stuck
theorem o_eqR {n sub} {tab : Nat → Option BM} (hK : G.K = X.K) (hr : Rm (k + 1) X.A) (ET : EqT G n sub) (T : ∀ c, DuOk X.prog X.w X.mg X.base G k "__eq__" c (tab c)) : OpR X (compareOp .Eq) (upR G (eqR n tab)) := by
  rintro pins s σ H x y va ua Q I rx ry ⟨ρ, v, u, S, rv, ru, hh, hp⟩
  simp only [eqR] at hp
  cases q1 : objV u S with
  | none => rw [q1] at hp; exact hp.elim
  | some cf =>
    obtain ⟨c, fs⟩ := cf
    rw [q1] at hp
    simp only at hp
    have Tc := T c
    cases q2 : tab c with
    | none => rw [q2] at hp; exact hp.elim
    | some g =>
      rw [q2] at hp Tc
      simp only at hp
      obtain ⟨fa, h1, h2, FF⟩ := Tc
      rw [hK] at h1 h2 FF
      by_cases z : kdB v S = true ∧ c < n
      · rw [if_pos z] at hp
        obtain ⟨a, dx, xs, rfl, ea, _, _⟩ := rel_obj hh ru q1
        obtain ⟨mA, O, _⟩ := ins_get I.hok ea
        obtain ⟨od, J, _⟩ := O.look
        obtain ⟨ob, _, _⟩ := O
        obtain rfl : ua = Value.ref a := ry
        have s3 : ∀ t ∈ tyNs, PySem.W.subIn X.K (.ref (G.cls c)) (.type t) = some false := fun t ht => by rw [← hK]; exact ET.s3 t ht c z.2
        have fin : wpAny (model X.prog X.w) X.A (call (.ref fa) [.ref a, va]) (PySem.W.CmpBack (EP X pins σ Q)) X.xe s := by
          refine wpAny_mono (du_run (vs := [.ref a, x]) (Q := fun y H' => ∃ z, y = .bl z ∧ Q (.bl z) H') FF (hr.mono (Nat.le_succ _)) I.env0 I (.cons rfl (.cons rx .nil)) ⟨ρ, [u, v], S, ⟨_, _, rfl, ru, _, _, rfl, rv, rfl⟩, hh, (NoX_post (Post.bind hp)).mono fun w S1 ρ1 H1 s1 h3 q y' ry' => ?_⟩) (fun y' s' hy => ?_) fun _ _ z => z
          · cases w with
            | bl z => cases ry'; exact ⟨z, rfl, q ρ1 H1 .refl h3 _ rfl⟩
            | _ => exact q.elim
          · obtain ⟨x', H', I', rx', z, rfl, q⟩ := hy
            cases rx'
            exact ⟨.bl z, H', I', rfl, q⟩
        show wpAny (model X.prog X.w) X.A (richCompare .Eq va (.ref a)) _ _ _
        have go : ∀ {t id : String}, t ∈ tyNs → s.TypeIs va t → Slot t "__eq__" id → wpAny (model X.prog X.w) X.A (call (.builtin id) [va, .ref a]) (fun v s' => v = .notImplemented ∧ s' = s) X.xe s → wpAny (model X.prog X.w) X.A (richCompare .Eq va (.ref a)) (EP X pins σ Q) X.xe s := fun {t id} ht hT hsl hd =>
          PySem.W.mp_eqr hr.units0 hT hsl hd I.kIn J (s3 t ht) h1 h2 fin
        have zk := z.1
        cases v with
        | non => cases rv; cases rx; exact go (t := "NoneType") (by decide) rfl F.slot_NoneType_eq (call_gives F.slot_NoneType_eq rfl F.entry_NoneType_eq (F.args_NoneType_eq_2 _ _) (NoneType___eq___none_ref_0 a) ⟨rfl, rfl⟩)
        | bl b => cases rv; cases rx; exact go (t := "bool") (by decide) rfl F.slot_bool_eq (call_meets F.slot_bool_eq rfl F.entry_int_eq (F.args_int_eq_2 _ _) (PySem.W.ri_bool b a _ dx) ⟨ob, rfl, rfl⟩)
        | int i => cases rv; obtain ⟨t, rfl⟩ := rx; exact go (t := "int") (by decide) (typeIs_int s i t) F.slot_int_eq (call_meets F.slot_int_eq (typeIs_int s i t) F.entry_int_eq (F.args_int_eq_2 _ _) (PySem.W.ri_int i t a _ dx) ⟨ob, rfl, rfl⟩)
        | str b => cases rv; obtain ⟨t, rfl⟩ := rx; exact go (t := "str") (by decide) (typeIs_str s b t) F.slot_str_eq (call_meets F.slot_str_eq (typeIs_str s b t) F.entry_str_eq (F.args_str_eq_2 _ _) (PySem.W.ri_str b t a _ dx) ⟨ob, rfl, rfl⟩)
        | tup ws =>
          obtain ⟨a', xs', rfl, t1, _⟩ := rv
          obtain rfl : va = Value.ref a' := rx
          obtain ⟨its, _, ⟨o, e, c1, m, d1⟩, _⟩ := I.tuple (show SqT X.K H a' xs' by rw [← hK]; exact t1.sq)
          obtain ⟨oc, od', dt, sl⟩ := o
          simp only at c1 d1
          subst c1 d1
          exact go (t := "tuple") (by decide) ⟨_, e, rfl⟩ F.slot_tuple_eq (call_meets F.slot_tuple_eq ⟨_, e, rfl⟩ F.entry_tuple_eq (F.args_tuple_eq_2 _ _) (PySem.W.ri_tup a' a _ dx _ _ _ _ X.K (s3 "tuple" (by decide))) ⟨e, ob, I.kIn, rfl, rfl⟩)
        | loc l =>
          simp only [kdB] at zk
          cases q4 : S[l]? with
          | none => rw [q4] at zk; cases zk
          | some ob' =>
            rw [q4] at zk
            cases ob' with
            | lst ws =>
              obtain ⟨a', xs', rfl, _, e1, _⟩ := rel_lst hh rv q4
              obtain rfl : va = Value.ref a' := rx
              obtain ⟨_, its, m, _, e⟩ := (show ObjOk X.prog X.w H s.heap a' (.lst xs') from I.hok a' _ e1)
              exact go (t := "list") (by decide) ⟨_, e, rfl⟩ F.slot_list_eq (call_meets F.slot_list_eq ⟨_, e, rfl⟩ F.entry_list_eq (F.args_list_eq_2 _ _) (PySem.W.ri_list a' a _ dx _ _ _ _ X.K (s3 "list" (by decide))) ⟨e, ob, I.kIn, rfl, rfl⟩)
            | _ => cases zk
        | _ => cases zk
      · rw [if_neg z] at hp; exact hp.elim
end
end Mp
set_option Elab.async false
set_option linter.all false
set_option maxRecDepth 100000
set_option maxHeartbeats 4000000
namespace PySem.W
open PySem PySem.Calls PyProof.Rows SeqAt MeetsSeq
section
variable {A : Around} {s : Shared}
theorem rd_str (b : Str) (u : Tok) (x : Addr) (es : Array DictEntry) (n : Nat) (dd : Option Addr) (sl : Array (Option Value)) :
    Meets (Builtin.«str.__eq__» ⟨[.str b u, .ref x], []⟩) (fun _ R s => s.heap.get? x = some { cls := .type "dict", dict := dd, data := .dict es n, slots := sl } ∧ R (.ok (.ret .notImplemented)) s) :=
  .of_wp fun prog w A R s h => by obtain ⟨hp, g, d, tk, os⟩ := s; obtain ⟨hx, h⟩ := h; wp_walk using wpAny_loadPart' hx, wpAny_load hx; exact ⟨_, rfl, h⟩
theorem rd_dict (b : Str) (u : Tok) (x : Addr) (es : Array DictEntry) (n : Nat) (dd : Option Addr) (sl : Array (Option Value)) :
    Meets (Builtin.«dict.__eq__» ⟨[.ref x, .str b u], []⟩) (fun _ R s => s.heap.get? x = some { cls := .type "dict", dict := dd, data := .dict es n, slots := sl } ∧ R (.ok (.ret .notImplemented)) s) :=
  .of_wp fun prog w A R s h => by obtain ⟨hp, g, d, tk, os⟩ := s; obtain ⟨hx, h⟩ := h; have f1 := F.sub_str_dict; wp_walk using wpAny_loadPart' hx, wpAny_load hx; exact ⟨_, rfl, h⟩
theorem eqAt_str_dict {b : Str} {u : Tok} {x : Addr} {es : Array DictEntry} {n : Nat} {dd : Option Addr} {sl : Array (Option Value)} (hu : A.units < cLine) (hx : s.heap.get? x = some { cls := .type "dict", dict := dd, data := .dict es n, slots := sl }) : EqAt A s (.str b u) (.ref x) false := fun prog w E Q h => by
  unfold eqBool
  refine wpAny_holding ?_
  refine wpAny_ite_split (fun hab => absurd (eq_of_beq hab) nofun) (fun _ => ?_)
  refine wpAny_bind (rc_eq_decline_or (k := false) (typeIs_str s b u) ⟨_, hx, rfl⟩ (by decide) F.sub_dict_str F.slot_str_eq F.slot_dict_eq_refl ?_ ?_ (fun _ hq => wpAny_of_eq (rfl : isSame (.str b u) (.ref x) = pure false) hq) (.inr hu) (wpAny_truthy_bool h))
  · exact fun _ hq => call_meets F.slot_str_eq (typeIs_str s b u) F.entry_str_eq (F.args_str_eq_2 _ _) (rd_str b u x es n dd sl) ⟨hx, hq⟩
  · exact fun _ hq => call_meets F.slot_dict_eq_refl ⟨_, hx, rfl⟩ F.entry_dict_eq (F.args_dict_eq_2 _ _) (rd_dict b u x es n dd sl) ⟨hx, hq⟩
end
end PySem.W
namespace Mp
open PySem PySem.Spec PyProof.Rows L2 PySem.SeqAt PySem.Calls
section
variable {X : Cx} {G : Gi} {Wx : WX} {k : Nat} {f : Addr}
def strsW : List W → Bool
  | [] => true
  | .str _ :: r => strsW r
  | _ => false
/-- a dict in a tuple of texts -/
@[simp] def dctIn (neg : Bool) : W → W → M W := fun v u S => match v with
  | .loc l => match S[l]? with
    | some (.dct _) => match u with
      | .tup ws => if strsW ws = true then .ok (.bl neg) S else .stuck
      | _ => .stuck
    | _ => .stuck
  | _ => .stuck
theorem strs_rel {ρ H} : ∀ {ws : List W} {xs : List V} {its : List Value}, strsW ws = true → RelWs G.toGb ρ H ws xs → Vals xs its → ∀ y ∈ its, ∃ b t, y = .str b t
  | [], _, _, _, h, v => by subst h; cases v; exact fun y z => nomatch z
  | .str b :: r, _, its, h, ⟨y, ys, e, r1, r2⟩, v => by
    subst e
    cases r1
    cases v with
    | cons h1 h2 =>
      obtain ⟨t, rfl⟩ := h1
      intro y z
      rcases List.mem_cons.mp z with rfl | z
      · exact ⟨_, _, rfl⟩
      · exact strs_rel (ws := r) h r2 h2 y z
theorem dct_facts {pins : List (Addr × Obj)} {σ : L2.St} {H : Hp} {s : Shared} {ρ : Rho} {S : Sto} {v u : W} {x y : V} {va ua : Value} {neg : Bool} {Q : VK} (hK : G.K = X.K) (hu : X.A.units + 64 < cLine) (I : Inv X pins σ H s) (rx : RelV x va) (ry : RelV y ua)
    (rv : RelW G.toGb ρ H v x) (ru : RelW G.toGb ρ H u y) (hh : RelH G ρ H S) (hp : Post G ρ H (dctIn neg v u S) (QW G Q) NoE) :
    ∃ l its, ua = .ref l ∧ s.heap.IsTuple l its ∧ (∀ y, y ∈ its → EqAt X.A.in1 s y va false) ∧ Q (.bl neg) H := by
  cases v with
  | loc l =>
    simp only [dctIn] at hp
    cases q1 : S[l]? with
    | none => rw [q1] at hp; exact hp.elim
    | some ob =>
      rw [q1] at hp
      cases ob with
      | dct kvs =>
        cases u with
        | tup ws =>
          simp only at hp
          by_cases z : strsW ws = true
          · rw [if_pos z] at hp
            obtain ⟨a, ea, rfl⟩ := rv
            obtain ⟨a', xs, e1, e2, _, _⟩ := hh.at_ l _ q1
            rw [ea] at e1; cases e1
            obtain rfl : va = Value.ref a := rx
            obtain ⟨b, ys, rfl, t1, r1⟩ := ru
            obtain rfl : ua = Value.ref b := ry
            obtain ⟨its, vr, ht, _⟩ := I.tuple (show SqT X.K H b ys by rw [← hK]; exact t1.sq)
            obtain ⟨_, _, vs, _, hd⟩ := (show ObjOk X.prog X.w H s.heap a (.dK _) from I.hok a _ e2)
            obtain ⟨o, es, ep, ho, hex, hdt, _⟩ := hd
            have hcl := hex.1
            obtain ⟨oc, od, dt, sl⟩ := o
            simp only at hdt hcl
            subst hdt hcl
            refine ⟨b, its.toArray, rfl, ht, fun y hy => ?_, hp ρ H .refl hh _ rfl⟩
            obtain ⟨c, t, rfl⟩ := strs_rel z r1 vr y (by simpa using hy)
            exact PySem.W.eqAt_str_dict (by show X.A.units + 1 < cLine; omega) ho
          · rw [if_neg z] at hp; exact hp.elim
        | _ => exact hp.elim
      | _ => exact hp.elim
  | _ => exact hp.elim
theorem o_dctIn (hK : G.K = X.K) (hu : X.A.units + 64 < cLine) : OpR X (compareOp .In) (upR G (dctIn false)) := by
  rintro pins s σ H x y va ua Q I rx ry ⟨ρ, v, u, S, rv, ru, hh, hp⟩
  obtain ⟨l, its, rfl, ht, he, hq⟩ := dct_facts hK hu I rx ry rv ru hh hp
  refine in_tupleAt (fun _ => false) ht he ?_
  rw [show its.any (fun _ => false) = false by simp]
  exact ⟨.bl false, H, I, rfl, hq⟩
theorem o_dctNin (hK : G.K = X.K) (hu : X.A.units + 64 < cLine) : OpR X (compareOp .NotIn) (upR G (dctIn true)) := by
  rintro pins s σ H x y va ua Q I rx ry ⟨ρ, v, u, S, rv, ru, hh, hp⟩
  obtain ⟨l, its, rfl, ht, he, hq⟩ := dct_facts hK hu I rx ry rv ru hh hp
  refine notIn_tupleAt (fun _ => false) ht he ?_
  rw [show its.any (fun _ => false) = false by simp]
  exact ⟨.bl true, H, I, rfl, hq⟩
end
end Mp
set_option Elab.async false
set_option linter.all false
set_option maxRecDepth 100000
set_option maxHeartbeats 4000000
/-! texts joined and parted, a list told several times, a sign in a text -/
namespace Mp
open PySem PySem.Spec PyProof.Rows L2
section
variable {X : Cx} {G : Gi} {Wx : WX} {a b c e : Expr} {fa fb fc : EM} {pos pos' p p2 : Pos} {es : List Expr} {fs : AM} {ta tb : TM} {x : Str}
def asStrs : List W → Option (List Str)
  | [] => some []
  | .str z :: r => (asStrs r).map (z :: ·)
  | _ => none
theorem asStrs_rel {ρ H} : ∀ {ws : List W} {xs : List V} {zs : List Str}, RelWs G.toGb ρ H ws xs → asStrs ws = some zs → xs = zs.map V.str
  | [], _, _, r, h => by cases h; exact r
  | w :: ws, _, zs, ⟨y, ys, e, r1, r⟩, h => by
    subst e
    cases w with
    | str z =>
      obtain ⟨us, h1, rfl⟩ := Option.map_eq_some_iff.mp (show (asStrs ws).map (z :: ·) = some zs from h)
      cases r1
      rw [asStrs_rel r h1]; rfl
    | _ => cases h
theorem RelWs.strs {ρ H} : ∀ zs : List Str, RelWs G.toGb ρ H (zs.map W.str) (zs.map V.str)
  | [] => rfl
  | _ :: r => ⟨_, _, rfl, rfl, RelWs.strs r⟩
@[simp] def seqW : W → Sto → Option (List W) := fun v S => match v with
  | .loc l => lstOf l S
  | .tup ws => some ws
  | _ => none
theorem seqW_rel {ρ H S v x ws} (hK : G.K = X.K) (hh : RelH G ρ H S) (r : RelW G.toGb ρ H v x) (e : seqW v S = some ws) : ∃ a xs, x = .ref a ∧ RelWs G.toGb ρ H ws xs ∧ (SqL X.K H a xs ∨ SqT X.K H a xs) := by
  cases v with
  | loc l =>
    obtain ⟨a, xs, rfl, _, e1, r1⟩ := rel_lst hh r (lstOf_eq e)
    exact ⟨a, xs, rfl, r1, .inl (.of e1)⟩
  | tup us =>
    cases e
    obtain ⟨a, xs, rfl, t, r1⟩ := r
    exact ⟨a, xs, rfl, r1, .inr (by rw [← hK]; exact t.sq)⟩
  | _ => cases e
/-- sep.join(texts) -/
@[simp] def joinM : W → BM := fun v vs S => match v with
  | .str z => match vs with
    | [u] => match (seqW u S).bind asStrs with
      | some ys => if (ys.map (·.length)).sum + ys.length * z.length ≤ 16777216 then .ok (.str (Txt.join z ys)) S else .stuck
      | none => .stuck
    | _ => .stuck
  | _ => .stuck
theorem m_join (hK : G.K = X.K) : MtR X "str.join" (upM G joinM) := by
  refine MtR.imp ?_ (mt_join (X := X))
  rintro x xs H Q ⟨ρ, v, vs, S, rv, rs, hh, hp⟩
  cases v with
  | str z =>
    cases vs with
    | nil => exact hp.elim
    | cons u r =>
      cases r with
      | cons _ _ => exact hp.elim
      | nil =>
        simp only [joinM] at hp
        cases q : (seqW u S).bind asStrs with
        | none => rw [q] at hp; exact hp.elim
        | some ys =>
          rw [q] at hp
          simp only at hp
          by_cases h : (ys.map (·.length)).sum + ys.length * z.length ≤ 16777216
          · rw [if_pos h] at hp
            obtain ⟨ws, h1, h2⟩ := bind_some q
            obtain ⟨y, rfl, ry⟩ := rel1 rs
            obtain ⟨p, us, rfl, r1, sq⟩ := seqW_rel hK hh ry h1
            have e := asStrs_rel r1 h2
            subst e
            exact ⟨z, p, ys, rv, rfl, sq, h, hp ρ H .refl hh _ rfl⟩
          · rw [if_neg h] at hp; exact hp.elim
  | _ => exact hp.elim
/-- text.split(sep) -/
@[simp] def splitM : W → BM := fun v vs S => match v with
  | .str z => match vs with
    | [.str y] => if (y.length == 0) = false ∧ z.length + 2 ≤ big then .ok (.loc S.length) (S ++ [.lst ((Txt.split z y).map W.str)]) else .stuck
    | _ => .stuck
  | _ => .stuck
theorem m_split : MtR X "str.split" (upM G splitM) := by
  refine MtR.imp ?_ (mt_split (X := X))
  rintro x xs H Q ⟨ρ, v, vs, S, rv, rs, hh, hp⟩
  cases v with
  | str z =>
    cases vs with
    | nil => exact hp.elim
    | cons u r =>
      cases r with
      | cons _ _ => cases u <;> exact hp.elim
      | nil =>
        cases u with
        | str y =>
          have hp : Post G ρ H (if (y.length == 0) = false ∧ z.length + 2 ≤ big then .ok (.loc S.length) (S ++ [.lst ((Txt.split z y).map W.str)]) else .stuck) (QW G Q) NoE := hp
          by_cases h : (y.length == 0) = false ∧ z.length + 2 ≤ big
          · rw [if_pos h] at hp
            obtain ⟨w, rfl, ry⟩ := rel1 rs
            cases ry
            exact ⟨z, y, rv, rfl, h.1, le_line h.2, fun p np => hp _ _ (Step.new_ hh np) (lst_new hh np (RelWs.strs _)) _ ⟨p, ext_same, rfl⟩⟩
          · rw [if_neg h] at hp; exact hp.elim
        | _ => exact hp.elim
  | _ => exact hp.elim
/-- a list several times -/
@[simp] def repL : W → W → M W := fun v u S => match v, u with
  | .loc l, .int k => match lstOf l S with
    | some ws => if (0 ≤ k ∧ k ≤ 1000) ∧ ws.length ≤ 1000 then .ok (.loc S.length) (S ++ [.lst (List.replicate k.toNat ws).flatten]) else .stuck
    | none => .stuck
  | _, _ => .stuck
theorem RelWs.rep {ρ H} {ws : List W} {xs : List V} (r : RelWs G.toGb ρ H ws xs) : ∀ n : Nat, RelWs G.toGb ρ H (List.replicate n ws).flatten (List.replicate n xs).flatten
  | 0 => rfl
  | n + 1 => by
    rw [List.replicate_succ, List.replicate_succ, List.flatten_cons, List.flatten_cons]
    exact r.append (RelWs.rep r n)
theorem o_repL : OpR X (binaryOp .Mult) (upR G repL) := by
  refine OpR.imp ?_ op_rep
  rintro x y H Q ⟨ρ, v, u, S, rv, ru, hh, hp⟩
  cases v with
  | loc l =>
    cases u with
    | int k =>
      simp only [repL] at hp
      cases q : lstOf l S with
      | none => rw [q] at hp; exact hp.elim
      | some ws =>
        rw [q] at hp
        simp only at hp
        by_cases h : (0 ≤ k ∧ k ≤ 1000) ∧ ws.length ≤ 1000
        · rw [if_pos h] at hp
          obtain ⟨a, xs, rfl, _, e1, r1⟩ := rel_lst hh rv (lstOf_eq q)
          have hl : xs.length * k.toNat ≤ sizeLine := by
            rw [← r1.len]
            refine Nat.le_trans (Nat.mul_le_mul h.2 (show k.toNat ≤ 1000 by omega)) (by decide)
          exact ⟨a, k, xs, rfl, ru, e1, by omega, by omega, hl, fun p np => hp _ _ (Step.new_ hh np) (lst_new hh np (r1.rep _)) _ ⟨p, ext_same, rfl⟩⟩
        · rw [if_neg h] at hp; exact hp.elim
    | _ => exact hp.elim
  | _ => exact hp.elim
/-- a text in a text -/
@[simp] def strIn (neg : Bool) : W → W → M W := fun v u S => match v, u with
  | .str i, .str j => .ok (.bl (if neg then (Builtin.Str.occurrences j i 0 j.length 1).isEmpty else !(Builtin.Str.occurrences j i 0 j.length 1).isEmpty)) S
  | _, _ => .stuck
theorem o_strIn : OpR X (compareOp .In) (upR G (strIn false)) := by
  refine OpR.imp ?_ op_in_str
  rintro x y H Q ⟨ρ, v, u, S, rv, ru, hh, hp⟩
  cases v with
  | str i =>
    cases u with
    | str j => exact ⟨i, j, rv, ru, hp ρ H .refl hh _ rfl⟩
    | _ => exact hp.elim
  | _ => cases u <;> exact hp.elim
theorem o_strNin : OpR X (compareOp .NotIn) (upR G (strIn true)) := by
  refine OpR.imp ?_ op_notin_str
  rintro x y H Q ⟨ρ, v, u, S, rv, ru, hh, hp⟩
  cases v with
  | str i =>
    cases u with
    | str j => exact ⟨i, j, rv, ru, hp ρ H .refl hh _ (by simp only [if_true, Bool.not_not]; rfl)⟩
    | _ => exact hp.elim
  | _ => cases u <;> exact hp.elim
end
end Mp
set_option Elab.async false
set_option linter.all false
set_option maxRecDepth 100000
set_option maxHeartbeats 4000000
/-! the facts of the written part as Bools, and the end of a law -/
namespace Mp
open PySem PySem.Spec PyProof.Rows L2
open He (ga ma eqO_ok ba)
theorem dk {p : Prop} [Decidable p] (h : decide p = true) : p := of_decide_eq_true h
theorem al {α : Type} {l : List α} {f : α → Bool} (h : l.all f = true) : ∀ x ∈ l, f x = true := List.all_eq_true.mp h
theorem rg {n : Nat} {f : Nat → Bool} (h : (List.range n).all f = true) : ∀ c < n, f c = true := fun c hc => al h c (List.mem_range.mpr hc)
/-! ### classes -/
def clsB (K : PySem.W.Frag) (C : Addr) : Bool := PySem.W.plainGet K C Str.empty && (PySem.W.hasDictIn K C && (PySem.W.plainOver K C && He.eqO (PySem.W.findIn K (.ref C) "__setattr__") (some (some (.builtin "object.__setattr__")))))
theorem clsB_ok {K : PySem.W.Frag} {C : Addr} (h : clsB K C = true) : Cls K C := by
  obtain ⟨q1, r1⟩ := ba h
  obtain ⟨q2, r2⟩ := ba r1
  obtain ⟨q3, q4⟩ := ba r2
  exact ⟨q1, q2, q3, eqO_ok q4⟩
def objClsV : Value := .builtin "object.__class__"
def kitB (G : Gb) (n : Nat) (sub : Nat → Nat → Bool) : Bool :=
  (tyNs.all fun t => (List.range n).all fun c => decide (PySem.W.kitOne G.K (.type t) (.ref (G.cls c)) = some false) && decide (PySem.W.kitOne G.K (.ref (G.cls c)) (.type t) = some false)) &&
  (((List.range n).all fun c => (List.range n).all fun d => decide (PySem.W.kitOne G.K (.ref (G.cls c)) (.ref (G.cls d)) = some (sub c d))) &&
  (((List.range n).all fun c => decide (G.glo c = G.cls c) && (sub (c + 1000) (c + 1000) || (clsB G.K (G.cls c) && (He.eqO (PySem.W.findIn G.K (.ref (G.cls c)) "__class__") (some (some objClsV)) && decide (PySem.W.mroIn G.K (G.cls c) (.type "object") = some true))))) &&
  (He.eqO (PySem.W.specialIn G.K objClsV "__get__") (some (some (.builtin "getset_descriptor.__get__"))) && decide (PySem.W.takesIn G.K objClsV = some true))))
theorem kitB_ok {G : Gb} {n : Nat} {sub : Nat → Nat → Bool} (h : kitB G n sub = true) : KitT G n sub := by
  obtain ⟨q1, r1⟩ := ba h
  obtain ⟨q2, r2⟩ := ba r1
  obtain ⟨q3, r3⟩ := ba r2
  obtain ⟨q4, q5⟩ := ba r3
  refine ⟨fun c hc => ?_, fun t ht c hc => ?_, fun c hc t ht => ?_, fun c hc d hd => ?_, fun c hc hx => ?_, eqO_ok q4, dk q5⟩
  · exact dk (ba (rg q3 c hc)).1
  · exact dk (ba (rg (al q1 t ht) c hc)).1
  · exact dk (ba (rg (al q1 t ht) c hc)).2
  · exact dk (rg (rg q2 c hc) d hd)
  · have z := (ba (rg q3 c hc)).2
    rw [hx, Bool.false_or] at z
    obtain ⟨z1, z2⟩ := ba z
    obtain ⟨z3, z4⟩ := ba z2
    exact ⟨clsB_ok z1, eqO_ok z3, dk z4⟩
def eqB (G : Gb) (n : Nat) (sub : Nat → Nat → Bool) : Bool :=
  (tyNs.all fun t => (List.range n).all fun c => decide (PySem.W.subIn G.K (.type t) (.ref (G.cls c)) = some false) && decide (PySem.W.subIn G.K (.ref (G.cls c)) (.type t) = some false)) &&
  (((List.range n).all fun c => (List.range n).all fun d => sub d c || decide (PySem.W.subIn G.K (.ref (G.cls d)) (.ref (G.cls c)) = some false)) &&
  (List.range n).all fun c => decide (PySem.W.mroIn G.K (G.cls c) (.type "object") = some true))
theorem eqB_ok {G : Gb} {n : Nat} {sub : Nat → Nat → Bool} (h : eqB G n sub = true) : EqT G n sub := by
  obtain ⟨q1, r1⟩ := ba h
  obtain ⟨q2, q3⟩ := ba r1
  refine ⟨fun t ht c hc => dk (ba (rg (al q1 t ht) c hc)).1, fun c hc d hd hs => ?_, fun c hc => dk (rg q3 c hc), fun t ht c hc => dk (ba (rg (al q1 t ht) c hc)).2⟩
  have z := rg (rg q2 c hc) d hd
  rw [hs, Bool.false_or] at z
  exact dk z
def noB (G : Gb) (c : Nat) : Bool := (G.flds c).all (fun f => He.eqO (PySem.W.findIn G.K (.ref (G.cls c)) f) (some none)) && decide (G.flds c).Nodup
def clsFB (G : Gb) (c : Nat) : Bool := clsB G.K (G.cls c) && (noB G c && decide ((G.flds c).length < 1000))
theorem clsFB_ok {G : Gb} {c : Nat} (h : clsFB G c = true) : ClsF G c := by
  obtain ⟨q1, r1⟩ := ba h
  obtain ⟨q2, q3⟩ := ba r1
  obtain ⟨q4, q5⟩ := ba q2
  exact ⟨clsB_ok q1, dk q5, fun f hf => eqO_ok (al q4 f hf), dk q3⟩
def excB (K : PySem.W.Frag) (C : Addr) : Bool := L2.xfB K C && (He.eqO (PySem.W.findIn K (.ref C) "__class__") (some (some objClsV)) && (He.eqO (PySem.W.specialIn K objClsV "__get__") (some (some (.builtin "getset_descriptor.__get__"))) && (decide (PySem.W.takesIn K objClsV = some true) && decide (PySem.W.mroIn K C (.type "object") = some true))))
theorem excB_ok {K : PySem.W.Frag} {C : Addr} (h : excB K C = true) : L2.ExcC K C ∧ XfC K C := by
  obtain ⟨q1, r1⟩ := ba h
  obtain ⟨q2, r2⟩ := ba r1
  obtain ⟨q3, r3⟩ := ba r2
  obtain ⟨q4, q5⟩ := ba r3
  have x := xfB_ok q1
  exact ⟨⟨x.ga, x.gg, x.exC, x.hdC, eqO_ok q2, eqO_ok q3, dk q4, dk q5⟩, x⟩
def xcfB (G : Gb) (c : Nat) : Bool := excB G.K (G.cls c) && noB G c
theorem xcfB_ok {G : Gb} {c : Nat} (h : xcfB G c = true) : XcF G c := by
  obtain ⟨q1, r1⟩ := ba h
  obtain ⟨q4, q5⟩ := ba r1
  obtain ⟨e1, e2⟩ := excB_ok q1
  exact ⟨e1, e2, fun f hf => eqO_ok (al q4 f hf), dk q5⟩
/-- all of them below n -/
def xcAllB (G : Gb) (n : Nat) (xc : Nat → Bool) : Bool := (List.range n).all fun c => !xc c || xcfB G c
theorem xcAllB_ok {G : Gb} {n : Nat} {xc : Nat → Bool} (h : xcAllB G n xc = true) (hn : ∀ c, xc c = true → c < n) : ∀ c, xc c = true → XcF G c := fun c hc => by
  have z := rg h c (hn c hc)
  rw [hc] at z
  exact xcfB_ok z
def xmB (G : Gb) (n : Nat) (xc : Nat → Bool) (sub : Nat → Nat → Bool) : Bool := (List.range n).all fun c => !xc c || (List.range n).all fun d => !xc d || decide (PySem.W.exmOne G.K (.ref (G.cls c)) (.ref (G.cls d)) = some (sub c d))
theorem xmB_ok {G : Gb} {n : Nat} {xc : Nat → Bool} {sub : Nat → Nat → Bool} (h : xmB G n xc sub = true) (hn : ∀ c, xc c = true → c < n) : XmT G xc sub := ⟨fun c d hc hd => by
  have z := rg h c (hn c hc)
  rw [hc] at z
  have y := rg z d (hn d hd)
  rw [hd] at y
  exact dk y⟩
/-- raised with its __init__ -/
def oclB (K : PySem.W.Frag) (C : Addr) : Bool := match K.lookup C with
  | some ⟨.type t, _, .cls cd, sl⟩ => decide (t = "type") && (match cd.mro with
    | .ref C2 :: up => (match sl.toList with
      | [_, _, _, _, some (.builtin n), _] => decide (C2 = C) && (decide (n = "ValueError.__new__") && (!cd.hasDel && (cd.hasDict && PySem.HandSPX.refsVE up)))
      | _ => false)
    | _ => false)
  | _ => false
theorem oclB_ok {K : PySem.W.Frag} {C : Addr} (h : oclB K C = true) : ∃ y1 y2 y3 y4 up y5 y6 y7 y8 y9 z0 z1 z2 z3 z5, K.lookup C = some (excClassObj y1 y2 C y3 y4 up true y5 y6 y7 y8 y9 z0 z1 z2 z3 z5 "ValueError.__new__") ∧ PySem.HandSPX.refsVE up = true := by
  unfold oclB at h
  cases e : K.lookup C with
  | none => rw [e] at h; cases h
  | some ob =>
    obtain ⟨oc, od, dt, sl⟩ := ob
    rw [e] at h
    cases oc with
    | type t =>
      cases dt with
      | cls cd =>
        obtain ⟨h1, h2⟩ := ba h
        obtain rfl := dk h1
        obtain ⟨w1, w2, w3, w4, w5, w6, w7, w8, w9, w10, w11⟩ := cd
        simp only at h2
        cases w3 with
        | nil => cases h2
        | cons u up =>
          cases u with
          | ref C2 =>
            simp only at h2
            obtain ⟨ls⟩ := sl
            simp only at h2
            split at h2
            · rename_i lst s0 s1 s2 s3 nn s5
              obtain ⟨h3, h4⟩ := ba h2
              obtain ⟨h5, h6⟩ := ba h4
              obtain ⟨h7, h8⟩ := ba h6
              obtain ⟨h9, h10⟩ := ba h8
              obtain rfl := dk h3
              obtain rfl := dk h5
              simp only [Bool.not_eq_true'] at h7
              subst h7 h9
              exact ⟨w1, w5, w4, w2, up, w7, w8, w9, w10, od, s0, s1, s2, s3, s5, rfl, h10⟩
            · cases h2
          | _ => cases h2
      | _ => cases h
    | _ => cases dt <;> cases h
def oexB (K : PySem.W.Frag) (C : Addr) : Bool := oclB K C && (He.eqO (PySem.W.findIn K (.ref C) "__setattr__") (some (some (.builtin "object.__setattr__"))) && (decide (PySem.W.subIn K (.ref C) (.type "BaseException") = some true) && (decide (PySem.W.typeIn K (.ref C) = some (.type "type")) && PySem.W.keepIn K (.ref C))))
theorem oexB_ok {K : PySem.W.Frag} {C : Addr} (h : oexB K C = true) : OexC K C := by
  obtain ⟨q1, r1⟩ := ba h
  obtain ⟨q2, r2⟩ := ba r1
  obtain ⟨q3, r3⟩ := ba r2
  obtain ⟨q4, q5⟩ := ba r3
  exact ⟨oclB_ok q1, eqO_ok q2, dk q3, dk q4, q5⟩
def exCB (G : Gb) (c : Nat) (fl : List Str) : Bool := oexB G.K (G.cls c) && (fl.all (fun f => He.eqO (PySem.W.findIn G.K (.ref (G.cls c)) f) (some none)) && (decide fl.Nodup && decide (G.flds c = fl.reverse)))
theorem exCB_ok {G : Gb} {c : Nat} {fl : List Str} (h : exCB G c fl = true) : ExC G c fl := by
  obtain ⟨q1, r1⟩ := ba h
  obtain ⟨q2, r2⟩ := ba r1
  obtain ⟨q3, q4⟩ := ba r2
  exact ⟨oexB_ok q1, fun f hf => eqO_ok (al q2 f hf), dk q3, dk q4⟩
/-! ### members -/
def methB (K : PySem.W.Frag) (C : Addr) (m : Str) (f : Addr) : Bool := He.eqO (PySem.W.findIn K (.ref C) m) (some (some (.ref f))) && (PySem.W.isFn K (.ref f) && PySem.W.keepIn K (.ref f))
theorem methB_ok {K : PySem.W.Frag} {C : Addr} {m : Str} {f : Addr} (h : methB K C m f = true) : Meth K C m f := by
  obtain ⟨q1, r1⟩ := ba h
  obtain ⟨q2, q3⟩ := ba r1
  exact ⟨eqO_ok q1, q2, q3⟩
def mkB (K : PySem.W.Frag) (C f : Addr) : Bool := PySem.W.makesIn K C && (He.eqO (PySem.W.findIn K (.ref C) "__init__") (some (some (.ref f))) && (PySem.W.isFn K (.ref f) && PySem.W.keepIn K (.ref C)))
theorem mkB_ok {K : PySem.W.Frag} {C f : Addr} (h : mkB K C f = true) : Mk K C f := by
  obtain ⟨q1, r1⟩ := ba h
  obtain ⟨q2, r2⟩ := ba r1
  obtain ⟨q3, q4⟩ := ba r2
  exact ⟨q1, eqO_ok q2, q3, q4⟩
def propB (K : PySem.W.Frag) (C : Addr) (m : Str) (p g : Addr) : Bool := He.eqO (PySem.W.findIn K (.ref C) m) (some (some (.ref p))) && (He.eqO (PySem.W.specialIn K (.ref p) "__get__") (some (some (.builtin "property.__get__"))) && (decide (PySem.W.takesIn K (.ref p) = some true) && (match PySem.W.recIn K p "property" with
  | some (.ref g2 :: _) => decide (g2 = g)
  | _ => false)))
theorem propB_ok {K : PySem.W.Frag} {C : Addr} {m : Str} {p g : Addr} (h : propB K C m p g = true) : PropOf K C m p g := by
  obtain ⟨q1, r1⟩ := ba h
  obtain ⟨q2, r2⟩ := ba r1
  obtain ⟨q3, q4⟩ := ba r2
  refine ⟨eqO_ok q1, eqO_ok q2, dk q3, ?_⟩
  split at q4
  · rename_i g2 rest e
    obtain rfl := dk q4
    exact ⟨rest, e⟩
  · cases q4
/-- a property's getter -/
def pgA (K : PySem.W.Frag) (C : Addr) (m : Str) : Addr := match PySem.W.recIn K (ma K C m) "property" with
  | some (.ref g :: _) => g
  | _ => 0
/-! ### names of the module -/
def gloB (K : PySem.W.Frag) (x : Str) : Bool := He.eqO (PySem.W.nsIn K mainGlobals x) (some (some (.ref (ga K x))))
def freeB (K : PySem.W.Frag) (x : Str) : Bool := He.eqO (PySem.W.nsIn K mainGlobals x) (some none)
def conB (K : PySem.W.Frag) (x : Str) (v : V) : Bool := match PySem.W.nsIn K mainGlobals x with
  | some (some u) => He.relB v u
  | _ => false
section
variable {K : PySem.W.Frag} {h : Heap} {mg : Str → Option Value}
theorem gloB_ok (X : K.In h) (N : h.Ns mainGlobals mg) {x : Str} (c : gloB K x = true) : mg x = some (.ref (ga K x)) := PySem.W.mg_of X N (eqO_ok c)
theorem freeB_ok (X : K.In h) (N : h.Ns mainGlobals mg) {x : Str} (c : freeB K x = true) : mg x = none := PySem.W.mg_none_of X N (eqO_ok c)
theorem conB_ok (X : K.In h) (N : h.Ns mainGlobals mg) {x : Str} {v : V} (c : conB K x v = true) : ∃ u, mg x = some u ∧ RelV v u := by
  unfold conB at c
  split at c
  · rename_i u e
    exact ⟨u, PySem.W.mg_of X N e, He.relB_ok c⟩
  · cases c
end
/-- a tuple of constants -/
def wv : W → Option V
  | .non => some .non
  | .bl b => some (.bl b)
  | .int i => some (.int i)
  | .str z => some (.str z)
  | .ty n => some (.ty n)
  | _ => none
def wvs : List W → Option (List V)
  | [] => some []
  | w :: r => match wv w, wvs r with
    | some v, some vs => some (v :: vs)
    | _, _ => none
theorem wv_ok {w : W} {v : V} (h : wv w = some v) (G : Gb) (ρ : Rho) (H : Hp) : RelW G ρ H w v := by
  cases w <;> first | (cases h; rfl) | cases h
theorem wvs_ok (G : Gb) (ρ : Rho) (H : Hp) : ∀ {ws : List W} {vs : List V}, wvs ws = some vs → RelWs G ρ H ws vs
  | [], _, h => by cases h; rfl
  | w :: r, vs, h => by
    unfold wvs at h
    cases e1 : wv w with
    | none => rw [e1] at h; cases h
    | some v =>
      cases e2 : wvs r with
      | none => rw [e1, e2] at h; cases h
      | some us =>
        rw [e1, e2] at h
        cases h
        exact ⟨v, us, rfl, wv_ok e1 G ρ H, wvs_ok G ρ H e2⟩
def topTB (K : PySem.W.Frag) (x : Str) (ws : List W) : Bool := gloB K x && (match wvs ws, K.lookup (ga K x) with
  | some vs, some ⟨.type c, _, .seq its _, _⟩ => decide (c = "tuple") && (decide (its.size ≤ sizeLine) && He.relAll vs its.toList)
  | _, _ => false)
theorem topTB_ok {K : PySem.W.Frag} {h : Heap} {mg : Str → Option Value} (X : K.In h) (N : h.Ns mainGlobals mg) {x : Str} {ws : List W} (c : topTB K x ws = true) : TopT K mg x ws := by
  obtain ⟨q1, q2⟩ := ba c
  split at q2
  · rename_i vs cl od its n sl e1 e2
    obtain ⟨z1, z2⟩ := ba q2
    obtain ⟨z3, z4⟩ := ba z2
    exact ⟨_, vs, gloB_ok X N q1, ⟨_, its, n, e2, congrArg Value.type (dk z1), rfl, dk z3, He.relAll_ok z4⟩, fun G ρ H => wvs_ok G ρ H e1⟩
  · cases q2
/-! ### defs, wherever they stand -/
structure Fd where
  at_ : PySem.W.Frag → Addr
  name : Str
  qual : Str
  params : Arguments
  body : List Stmt
  scope : Scope
  dfl : List He.Dv := []
  kwd : List (Str × He.Dv) := []
def fwAt (K : PySem.W.Frag) (a : Addr) : He.FnW := match K.lookup a with
  | some ⟨_, _, .func fd, _⟩ => some (fd.name, fd.qualname, fd.params, fd.body, fd.scope, fd.globals, fd.closure, fd.builtins)
  | _ => none
def Fd.val (d : Fd) : He.FnW := some (d.name, d.qual, d.params, .stmts d.body, d.scope, mainGlobals, [], builtinsNs)
def Fd.dvs (K : PySem.W.Frag) (d : Fd) : List V := d.dfl.map (He.Dv.v K)
def Fd.kws (K : PySem.W.Frag) (d : Fd) : List (Str × V) := d.kwd.map fun q => (q.1, q.2.v K)
def Fd.okB (K : PySem.W.Frag) (d : Fd) : Bool := PySem.W.keepIn K (.ref (d.at_ K)) && (match K.lookup (d.at_ K) with
  | some ⟨_, _, .func fd, _⟩ => PySem.W.codeIn K fd.code d.qual && (He.dflB K fd.defaults (d.dvs K) && He.kwdB K fd.kwdefaults (d.kws K))
  | _ => false)
theorem Fd.fun_ {K : PySem.W.Frag} {d : Fd} (e : fwAt K (d.at_ K) = d.val) (c : d.okB K = true) : ∃ fd, FunD K d.name d.qual d.params d.body d.scope (d.dvs K) (d.kws K) (d.at_ K) fd := by
  obtain ⟨kp, c2⟩ := ba c
  unfold fwAt at e
  split at e
  · rename_i x1 x2 fd x3 e1
    rw [e1] at c2
    obtain ⟨z1, z2⟩ := ba c2
    obtain ⟨z3, z4⟩ := ba z2
    obtain ⟨m1, m2, m3, m4, m5, m6, m7, m8, m9, m10, m11, m12, m13, m14, m15⟩ := fd
    have e2 := e
    unfold Fd.val at e2
    simp only [Option.some.injEq, Prod.mk.injEq] at e2
    obtain ⟨g1, g2, g3, g4, g5, g6, g7, g8⟩ := e2
    subst g1 g2 g3 g4 g5 g6 g7 g8
    exact ⟨_, ⟨x1, x2, m8, m9, m10, m11, m12, m13, m14, x3, rfl, e1, z1, He.dflB_ok z3, He.kwdB_ok z4⟩, kp⟩
  · cases e
def cdA (K : PySem.W.Frag) (a : Addr) : Addr := match K.lookup a with
  | some ⟨_, _, .func fd, _⟩ => (match fd.code with
    | .ref c => c
    | _ => 0)
  | _ => 0
theorem FunD.funC {K : PySem.W.Frag} {x qual : Str} {params : Arguments} {body : List Stmt} {scope : Scope} {dvs : List V} {kws : List (Str × V)} {f : Addr} {fd : FuncData} (F : FunD K x qual params body scope dvs kws f fd) : FunC K x qual params body scope f fd (cdA K f) := by
  obtain ⟨⟨oc, od, u1, u2, u3, u4, an, cv, ct, sl, rfl, lk, hc, _, _⟩, _⟩ := F
  obtain ⟨c, rfl⟩ := He.codeIn_ref hc
  have e : cdA K f = c := by unfold cdA; rw [lk]
  rw [e]
  exact ⟨oc, od, u1, u2, u3, u4, an, ct, sl, rfl, lk, hc⟩
/-! ### the Hook -/
/-- a def's code object and its table -/
abbrev Ct : Type := PySem.W.Frag → Addr
def ctP (K : PySem.W.Frag) (a : Addr) : Addr × Addr := (cdA K a, He.tabOf K (cdA K a))
abbrev AlM : Type := Bool × List He.FnW
def tabsM (g : Addr → Option Obj) (tf : List Ct) (K : PySem.W.Frag) : Bool := tf.all fun p => PySem.W.codeHdIn K (ctP K (p K)).1 (ctP K (p K)).2 && (match g (ctP K (p K)).2 with
  | some o => He.emptyTab o
  | none => false)
def obM (ex : PySem.W.Frag → Bool) (fn : List Fd) (tf : List Ct) (g : Addr → Option Obj) (K : PySem.W.Frag) : AlM := (ex K && ((fn.all fun d => d.okB K) && tabsM g tf K), fn.map fun d => fwAt K (d.at_ K))
def vlM (fn : List Fd) : AlM := (true, fn.map Fd.val)
structure SaysM (ex : PySem.W.Frag → Bool) (fn : List Fd) (tf : List Ct) (h : Heap) (K : PySem.W.Frag) : Prop where
  ex : ex K = true
  df : ∀ (i : Nat) (d : Fd), fn[i]? = some d → ∃ fd, FunD K d.name d.qual d.params d.body d.scope (d.dvs K) (d.kws K) (d.at_ K) fd
  hd : ∀ p ∈ tf, PySem.W.codeHdIn K (ctP K (p K)).1 (ctP K (p K)).2 = true
  out : ∀ p ∈ tf, K.lookup (ctP K (p K)).2 = none
  emp : ∀ p ∈ tf, h.get? (ctP K (p K)).2 = some { cls := .none, data := .fields #[] }
/-- what is looked at: what the module reaches, and the classes' statics -/
def addR : List Addr → Nat → List Addr → Nat × List Addr
  | [], m, acc => (m, acc)
  | r :: rs, m, acc => match Nat.testBit m r with
    | true => addR rs m acc
    | false => addR rs (m ||| (1 <<< r)) (r :: acc)
def growM (g : Addr → Option Obj) : List Addr → Nat → List Addr → Nat × List Addr
  | [], m, acc => (m, acc)
  | a :: as, m, acc => match g a with
    | some o => (match addR (He.refsD o) m acc with
      | (m2, acc2) => growM g as m2 acc2)
    | none => growM g as m acc
def levM (g : Addr → Option Obj) : Nat → List Addr → Nat → List Addr → List Addr
  | 0, _, _, all => all
  | n + 1, fr, m, all => match growM g fr m [] with
    | (m2, new) => levM g n new m2 (new ++ all)
def asM (g : Addr → Option Obj) (n : Nat) : List Addr := levM g n [mainGlobals] (1 <<< mainGlobals) [mainGlobals] ++ [cStatics]
def obMG (n : Nat) (ex : PySem.W.Frag → Bool) (fn : List Fd) (tf : List Ct) (g : Addr → Option Obj) : AlM := obM ex fn tf g (He.frT g (asM g n))
theorem saysM_of {n : Nat} {ex : PySem.W.Frag → Bool} {fn : List Fd} {tf : List Ct} {h : Heap} (e : obMG n ex fn tf h.get? = vlM fn) : SaysM ex fn tf h (He.frT h.get? (asM h.get? n)) := by
  generalize hK : He.frT h.get? (asM h.get? n) = K at e ⊢
  unfold obMG at e
  rw [hK] at e
  have e1 : (ex K && ((fn.all fun d => d.okB K) && tabsM h.get? tf K)) = true := congrArg Prod.fst e
  have e2 : fn.map (fun d => fwAt K (d.at_ K)) = fn.map Fd.val := congrArg Prod.snd e
  obtain ⟨q1, r1⟩ := ba e1
  obtain ⟨q2, q3⟩ := ba r1
  have key : ∀ p ∈ tf, PySem.W.codeHdIn K (ctP K (p K)).1 (ctP K (p K)).2 = true ∧ ∃ o, h.get? (ctP K (p K)).2 = some o ∧ He.emptyTab o = true := fun p hp => by
    obtain ⟨z1, z2⟩ := ba (al q3 p hp)
    refine ⟨z1, ?_⟩
    split at z2
    · rename_i o eo
      exact ⟨o, eo, z2⟩
    · cases z2
  refine ⟨q1, fun i d hd => ?_, fun p hp => (key p hp).1, fun p hp => ?_, fun p hp => ?_⟩
  · have e3 : (fn.map fun d => fwAt K (d.at_ K))[i]? = (fn.map Fd.val)[i]? := by rw [e2]
    rw [List.getElem?_map, List.getElem?_map, hd] at e3
    exact Fd.fun_ (Option.some.inj e3) (al q2 d (List.mem_of_getElem? hd))
  · obtain ⟨_, o, z1, z2⟩ := key p hp
    rw [← hK] at z1 ⊢
    exact He.frT_none z1 z2
  · obtain ⟨_, o, z1, z2⟩ := key p hp
    rw [z1, He.emptyTab_eq z2]
def hookM (n : Nat) (ex : PySem.W.Frag → Bool) (fn : List Fd) (tf : List Ct) : PySem.W.Hook where
  α := AlM
  obs := fun s => obMG n ex fn tf s.heap.get?
  val := fun _ => vlM fn
  says := fun _ h => ∃ K : PySem.W.Frag, K.In h ∧ SaysM ex fn tf h K
  of := fun _ _ e => ⟨_, He.frT_in, saysM_of e⟩
  keeps := fun _ _ _ ⟨K, hK, c⟩ k => ⟨K, PySem.W.Frag.In.keeps hK k, ⟨c.ex, c.df, c.hd, c.out, fun p hp => k _ _ (c.emp p hp)⟩⟩
theorem obM_eq {n : Nat} {ex : PySem.W.Frag → Bool} {fn : List Fd} {tf : List Ct} (s : PySem.W.SharedT) : obMG n ex fn tf (HandSHeadRun.getT s) = (hookM n ex fn tf).obs s.abs := by
  have e : HandSHeadRun.getT s = s.abs.heap.get? := funext (HandSHeadRun.getT_eq s)
  rw [e]
  rfl
end Mp
set_option Elab.async false
set_option linter.all false
set_option maxRecDepth 100000
set_option maxHeartbeats 4000000
/-! the script, read where it stands; the end of a law -/
namespace Mp
open PySem PySem.Spec PyProof.Rows L2
/-! ### the script -/
def ScOk (G : Gi) (sa : Addr) (sn : List Int) : Prop := ∀ ρ H, G.inv ρ H → SqL G.K H sa (sn.map V.int)
def scInv (K : PySem.W.Frag) (sa : Addr) (sn : List Int) (ρ : Rho) (H : Hp) : Prop := (Cold ρ sa ∧ Rd H sa (.lst (sn.map V.int))) ∨ ∀ H', SqL K H' sa (sn.map V.int)
/-- what holds of the whole law -/
def giOf (B : Gb) (T : List (Addr × Str)) (sa : Addr) (sn : List Int) : Gi := { toGb := B, T := T, inv := scInv B.K sa sn, stab := fun s h => h.elim (fun z => .inl (Rd.step s z.1 z.2)) .inr }
theorem giOf_sc (B : Gb) (T : List (Addr × Str)) (sa : Addr) (sn : List Int) : ScOk (giOf B T sa sn) sa sn := fun ρ H h => by
  rcases h with ⟨_, h2⟩ | h
  · exact .inl h2
  · exact h H
section
variable {X : Cx} {G : Gi} {Wx : WX} {a : Expr} {fa : EM} {pos p2 : Pos} {sa : Addr} {sn : List Int}
@[simp] def slA (sa : Addr) (sn : List Int) : W → Option Int → Option Int → M W := fun v lo hi S => match v with
  | .adr b => if b = sa then .ok (.loc S.length) (S ++ [.lst (cutW (sn.map W.int) lo hi)]) else .stuck
  | _ => .stuck
theorem RelWs.ints {ρ H} : ∀ sn : List Int, RelWs G.toGb ρ H (sn.map W.int) (sn.map V.int)
  | [] => rfl
  | _ :: r => ⟨_, _, rfl, rfl, RelWs.ints r⟩
theorem sl_A (hK : G.K = X.K) (sc : ScOk G sa sn) : SlR X (upSl G (slA sa sn)) := by
  refine SlR.imp ?_ sl_list
  rintro x lo hi H Q ⟨ρ, v, S, rv, hh, hp⟩
  cases v with
  | adr b =>
    have hp : Post G ρ H (if b = sa then .ok (.loc S.length) (S ++ [.lst (cutW (sn.map W.int) lo hi)]) else .stuck) (QW G Q) NoE := hp
    by_cases e : b = sa
    · rw [if_pos e] at hp
      subst e
      have hp2 : Post G ρ H (.ok (.loc S.length) (S ++ [.lst (cutW (sn.map W.int) lo hi)])) (QW G Q) NoE := by
        have z := hp
        simp only [slA, if_true] at z
        exact z
      exact ⟨b, sn.map V.int, rv, by rw [← hK]; exact sc ρ H hh.inv, fun p np => hp2 _ _ (Step.new_ hh np) (lst_new hh np (RelWs.ints sn).cut) _ ⟨p, ext_same, rfl⟩⟩
    · rw [if_neg e] at hp; exact hp.elim
  | _ => exact hp.elim
@[simp] def eSlA (sa : Addr) (sn : List Int) (f : EM) (g h : OM) : EM := fun ls S => (f ls S).bind fun v S1 => (g ls S1).bind fun lo S2 => (h ls S2).bind fun hi S3 => NoX (slA sa sn v lo hi S3)
theorem e_slA {lo hi : Option Expr} {g h : OM} (hK : G.K = X.K) (sc : ScOk G sa sn) (ha : PE X a (upE G Wx fa)) (hl : PO X lo (upO G Wx g)) (hu : PO X hi (upO G Wx h)) : PE X (.Subscript a (.Slice lo hi none p2) pos) (upE G Wx (eSlA sa sn fa g h)) :=
  PE.imp (fun σ H Q ⟨ρ, ls, S, hs, hh, hp⟩ => ⟨ρ, ls, S, hs, hh, (Post.bind hp).mono fun v S1 ρ1 H1 s1 h1 q x rx => ⟨ρ1, ls, S1, hs.step s1, h1, (Post.bind q).mono fun lo S2 ρ2 H2 s2 h2 q2 => ⟨ρ2, ls, S2, (hs.step s1).step s2, h2, (Post.bind q2).mono fun hi S3 ρ3 H3 s3 h3 q3 =>
    ⟨ρ3, v, S3, (rx.step s2).step s3, h3, NoX_post q3⟩⟩⟩⟩) (pe_slice (sl_A hK sc) ha hl hu)
end
/-! ### the end -/
def rho0 : Rho := ⟨fun _ => none, fun _ => false⟩
theorem cold0 (a : Addr) : Cold rho0 a := fun _ _ z => nomatch z
/-- nothing of the store, the script, the tables -/
theorem relH0 {G : Gi} {H : Hp} (ht : LamX.Tabs G.T H) (hi : G.inv rho0 H) : RelH G rho0 H [] :=
  { inj := fun _ _ _ z => (nomatch z), dmn := fun _ _ z => (nomatch z), at_ := fun _ _ z => by simp at z, hot := fun _ z => (nomatch z), tabs := ht, inv := hi }
/-- what the head leaves of the tables -/
structure CtOk (h : Heap) (K : PySem.W.Frag) (cs : List (Addr × Addr)) : Prop where
  emp : ∀ p ∈ cs, h.get? p.2 = some { cls := .none, data := .fields #[] }
  out : ∀ p ∈ cs, K.lookup p.2 = none
  hd : ∀ p ∈ cs, PySem.W.CodeHd h p.1 p.2
open Classical in
/-- nothing is followed but the tables, and the script if the written part does not have it -/
noncomputable def hp0 (K : PySem.W.Frag) (cs : List (Addr × Addr)) (sa : Addr) (so : Obj) (sn : List Int) : Hp := fun b =>
  if b ∈ cs.map Prod.snd then some (.tbl #[]) else if b = sa ∧ K.lookup sa = none then some (.frz so (.lst (sn.map V.int))) else none
section
variable {P : Program} {w : World} {K : PySem.W.Frag} {mg mb : Str → Option Value} {cs : List (Addr × Addr)} {sa fa : Addr} {sn : List Int} {sh : Shared} {its : List Value}
theorem hp0_tab {so : Obj} {b : Addr} (h : b ∈ cs.map Prod.snd) : hp0 K cs sa so sn b = some (.tbl #[]) := if_pos h
theorem hp0_cases {so : Obj} {b : Addr} {u : HO} (h : hp0 K cs sa so sn b = some u) : (b ∈ cs.map Prod.snd ∧ u = .tbl #[]) ∨ (b ∉ cs.map Prod.snd ∧ b = sa ∧ K.lookup sa = none ∧ u = .frz so (.lst (sn.map V.int))) := by
  unfold hp0 at h
  by_cases h1 : b ∈ cs.map Prod.snd
  · rw [if_pos h1] at h; cases h; exact .inl ⟨h1, rfl⟩
  · rw [if_neg h1] at h
    by_cases h2 : b = sa ∧ K.lookup sa = none
    · rw [if_pos h2] at h; cases h; exact .inr ⟨h1, h2.1, h2.2, rfl⟩
    · rw [if_neg h2] at h; cases h
/-- the law's def, called by the claim -/
theorem law_end {k : Nat} {G : Gi} {f : BM} (KX : K.In sh.heap) (nsG : sh.heap.Ns mainGlobals mg) (nsB : sh.heap.Ns builtinsNs mb) (hB : ∀ x : Str, x ≠ "__name__" → mb x = bootBuiltins x) (lim : sh.heap.NoLimit) (hg : sh.gens = #[]) (C : CtOk sh.heap K cs)
    (hbm : ∃ (m : Addr) (ob : Obj), mg "__builtins__" = some (.ref m) ∧ m ≠ builtinsNs ∧ sh.heap.get? m = some ob ∧ ob.cls = .type "module" ∧ ob.dict = some builtinsNs ∧ ob.data = .plain)
    (hs : sh.heap.get? sa = some { cls := .type "list", data := .seq its.toArray }) (hi : IntsAre its sn) (hl : sn.length ≤ sizeLine) (hr : Rm k callerA)
    (hT : ∀ p ∈ G.T, p.1 ∈ cs.map Prod.snd) (hI : G.inv = scInv K sa sn)
    (F : ∀ base : Heap, K.In base → base.Ns mainGlobals mg → (∀ p ∈ cs, LamX.TabB base mg p.1 p.2) → FnG P w K mg base (CX P w) k fa (spR G f))
    (hf : ∃ S', f [.adr sa] [] = .ok (.bl true) S') :
    codeAny (model P w) callerA (.call (.ref fa) ⟨[.ref sa], []⟩) (fun r s' => r = .ok (.ret (.bool true)) ∧ OldK sh.heap s'.heap ∧ s'.os = sh.os ∧ AllBare s'.gens) sh := by
  have rv := vals_ints hi
  have nT : ∀ b, b ∈ cs.map Prod.snd → sh.heap.get? b = some { cls := .none, data := .fields #[] } := fun b hb => by
    obtain ⟨p, hp, rfl⟩ := List.mem_map.mp hb
    exact C.emp p hp
  have kT : ∀ b, b ∈ cs.map Prod.snd → K.lookup b = none := fun b hb => by
    obtain ⟨p, hp, rfl⟩ := List.mem_map.mp hb
    exact C.out p hp
  have sT : sa ∉ cs.map Prod.snd := fun z => by
    have q := nT sa z
    rw [hs] at q
    cases congrArg Obj.cls (Option.some.inj q)
  have hs0 := hs
  generalize hso : ({ cls := .type "list", data := .seq its.toArray } : Obj) = so at hs
  obtain ⟨H, hH⟩ : ∃ H, H = hp0 K cs sa so sn := ⟨_, rfl⟩
  have Hc : ∀ {b u}, H b = some u → _ := fun {b u} z => hp0_cases (K := K) (cs := cs) (sa := sa) (so := so) (sn := sn) (b := b) (u := u) (by rw [← hH]; exact z)
  -- an object that is neither table nor script is not followed
  have off : ∀ {b : Addr} {o : Obj}, sh.heap.get? b = some o → o.cls ≠ .none → o.cls ≠ .type "list" → H b = none := fun {b o} e n1 n2 => by
    cases q : H b with
    | none => rfl
    | some u =>
      rcases Hc q with ⟨z, _⟩ | ⟨_, z, _⟩
      · rw [nT b z] at e; cases e; exact absurd rfl n1
      · subst z; rw [hs] at e; cases e; subst hso; exact absurd rfl n2
  have offD : ∀ {b : Addr} {o : Obj} {es : Array DictEntry} {n : Nat}, sh.heap.get? b = some o → o.data = .dict es n → H b = none := fun {b o es n} e d => by
    cases q : H b with
    | none => rfl
    | some u =>
      rcases Hc q with ⟨z, _⟩ | ⟨_, z, _⟩
      · rw [nT b z] at e; cases e; cases d
      · subst z; rw [hs] at e; cases e; subst hso; cases d
  have up : ∀ {b : Addr} {o : Obj}, sh.heap.get? b = some o → H b = none → (hidT sh.heap H).get? b = some o := fun e n => hidT_get e n
  have upN : ∀ {b : Addr} {m : Str → Option Value}, sh.heap.Ns b m → (hidT sh.heap H).Ns b m := fun {b m} ⟨o, es, n, e, d, r⟩ => ⟨o, es, n, up e (offD e d), d, r⟩
  have kin : K.In (hidT sh.heap H) := fun b o e => up (KX b o e) (by
    cases q : H b with
    | none => rfl
    | some u =>
      rcases Hc q with ⟨z, _⟩ | ⟨_, z, z2, _⟩
      · rw [kT b z] at e; cases e
      · subst z; rw [z2] at e; cases e)
  have md : L2.Mod K mg (hidT sh.heap H) := ⟨kin, upN nsG, ⟨mb, upN nsB, hB⟩, let ⟨m, z1, z2⟩ := lim; ⟨m, upN z1, z2⟩⟩
  have hok : HOk P w H sh.heap := fun b u z => by
    rcases Hc z with ⟨z1, z2⟩ | ⟨_, z1, z2, z3⟩
    · subst z2; exact nT b z1
    · subst z1 z3
      refine ⟨hs, by rw [List.length_map]; exact hl, its, _, rv, hs0⟩
  have tb : ∀ p ∈ cs, LamX.TabB (hidT sh.heap H) mg p.1 p.2 := fun p hp => by
    have e1 := C.emp p hp
    have pm : p.2 ∈ cs.map Prod.snd := List.mem_map.mpr ⟨p, hp, rfl⟩
    refine ⟨?_, ?_, fun z => ?_⟩
    · obtain ⟨o, us, f1, f2, f3, f4, f5, f6, f7, k1, k2, k3, k4, k5, k6, k7, k8, k9, kk⟩ := C.hd p hp
      refine ⟨o, us, f1, f2, f3, f4, f5, f6, f7, up k1 ?_, k2, k3, k4, k5, k6, k7, k8, k9, kk⟩
      refine off k1 (fun z => ?_) fun z => ?_ <;> rw [k2] at z
      · cases z
      · exact absurd (Value.type.inj z) (by decide)
    · obtain ⟨m, ob, b1, b2, b3, b4, b5, b6⟩ := hbm
      refine ⟨m, ob, b1, b2, fun q => ?_, fun q => ?_, up b3 (off b3 (fun z => ?_) fun z => ?_), b4, b5, b6⟩
      · obtain ⟨o, es, n, e, d, _⟩ := nsG
        rw [q, e] at b3; cases b3
        rw [d] at b6; cases b6
      · rw [q, e1] at b3; cases b3; cases b6
      · rw [b4] at z; cases z
      · rw [b4] at z; exact absurd (Value.type.inj z) (by decide)
    · obtain ⟨o, es, n, e, d, _⟩ := nsG
      rw [z, e1] at e; cases e; cases d
  have e0 : Env0 P w K mg (hidT sh.heap H) callerA [] sh H := { frames := rfl, mod := md, bs := fun b o e => of_hidT e, bsz := Nat.le_of_eq (hidT_size _ _), funs := trivial, frf := fun b z => (nomatch z), hok := hok, bare := .of_eq hg }
  have inv0 : scInv K sa sn rho0 H := by
    cases q : K.lookup sa with
    | none => 
      refine .inl ⟨cold0 sa, .inr ⟨so, ?_⟩⟩
      rw [hH]; unfold hp0
      rw [if_neg sT, if_pos ⟨rfl, q⟩]
    | some o =>
      have e := KX sa o q
      rw [hs] at e; cases e
      subst hso
      exact .inr fun H' => .inr ⟨_, its.toArray, _, q, rfl, rfl, rfl, by rw [List.size_toArray, hi.length]; exact hl, by simpa using rv⟩
  have tabs0 : LamX.Tabs G.T H := fun p hp => LamX.TabS.nil (by rw [hH]; exact hp0_tab (hT p hp))
  obtain ⟨S', hS⟩ := hf
  have hsp : spR G f [.ref sa] H (fun v _ => v = .bl true) fun _ _ _ => False := ⟨rho0, [.adr sa], [], ⟨_, _, rfl, rfl, rfl⟩, relH0 tabs0 (by rw [hI]; exact inv0), by
    rw [hS]; exact fun ρ' H' _ _ x hx => hx⟩
  refine codeAny_mono (F _ kin (upN nsG) tb callerA [] sh H [.ref sa] [.ref sa] _ _ hr e0 (.cons rfl .nil) hsp) fun r s' h => ?_
  cases r with
  | error e => 
    obtain ⟨_, _, _, _, _, _, _, _, _, _, _, _, z⟩ := (show CX P w [] H sh (fun _ _ _ => False) e s' from h)
    exact z.elim
  | ok fl =>
    cases fl with
    | ret u =>
      obtain ⟨v, H', os, bare, un, hok', ru, qv⟩ := h
      have qv : v = .bl true := qv
      subst qv
      obtain rfl : u = Value.bool true := ru
      have stay : ∀ b o, b ∉ cs.map Prod.snd → sh.heap.get? b = some o → s'.heap.get? b = some o := fun b o nb e => by
        cases q : H b with
        | none => exact un.keep b o e q (fun z => nomatch z) (fun z => nomatch z)
        | some u =>
          rcases Hc q with ⟨z, _⟩ | ⟨_, z1, _, z3⟩
          · exact absurd z nb
          · subst z3
            have y2 : s'.heap.get? b = some so ∧ _ := hok' b _ (un.frzs b _ _ q)
            subst z1
            rw [hs] at e; cases e
            exact y2.1
      have grow : ∀ b, b ∈ cs.map Prod.snd → ∃ more : Array Value, s'.heap.get? b = some { cls := .none, data := .fields more } := fun b hb => by
        obtain ⟨more, z⟩ := un.tbls b #[] (by rw [hH]; exact hp0_tab hb)
        exact ⟨_, hok' b _ z⟩
      refine ⟨rfl, ⟨fun b o e => ?_, fun b o e => ?_⟩, os, bare⟩
      · by_cases hb : b ∈ cs.map Prod.snd
        · obtain ⟨more, hm⟩ := grow b hb
          obtain ⟨p, hp, rfl⟩ := List.mem_map.mp hb
          rw [C.emp p hp] at e
          cases e
          exact .inr (.inl ⟨((C.hd p hp).tab (C.emp p hp)).isCodeTable, rfl, #[], more, rfl, by rw [Array.empty_append]; exact hm⟩)
        · exact .inl (stay b o hb e)
      · by_cases hb : b ∈ cs.map Prod.snd
        · obtain ⟨more, hm⟩ := grow b hb
          exact ⟨_, hm⟩
        · exact ⟨o, stay b o hb e⟩
    | _ => exact h.elim
end
theorem law_walk {l : PySem.W.OpenLaw} {n k : Nat} {q : Program} {loose : List Str} {XP : (Str → Option Value) → Heap → Prop} {YP : World → Heap → Prop} {d : DefRec}
    (hn : l.most = some n) (hn2 : n ≤ sizeLine) (hdf : d.params.defaults = []) (hr : Rm k callerA)
    (F : ∀ (w : World) (mg : Str → Option Value) (fa : Addr) (h : Heap) (sa : Addr) (sn : List Int), YP w h → h.Ns mainGlobals mg → mg d.name = some (.ref fa) → sn.length ≤ n → (∀ z ∈ sn, Builtin.Int.intBits z ≤ 1048576) →
      ∃ (K : PySem.W.Frag) (G : Gi) (f : BM) (cs : List (Addr × Addr)), K.In h ∧ CtOk h K cs ∧ (∀ p ∈ G.T, p.1 ∈ cs.map Prod.snd) ∧ G.inv = scInv K sa sn ∧
        (∀ base : Heap, K.In base → base.Ns mainGlobals mg → (∀ p ∈ cs, LamX.TabB base mg p.1 p.2) → FnG l.prog w K mg base (CX l.prog w) k fa (spR G f)) ∧ ∃ S', f [.adr sa] [] = .ok (.bl true) S') :
    PySem.W.WalkO q loose XP YP l.row.toRowW d [] (fun f vs => PySem.call f vs) := by
  refine Att.attach_callB hn hdf fun w t₀ sh mg mb fa o pm cd doc sa its sn G Y ho hd hcd hmg hs hi hlen hbits hg => ?_
  obtain ⟨K, G', f, cs, KX, C, hT, hI, hF, hf⟩ := F w mg fa _ sa sn Y G.T.g hmg hlen hbits
  exact law_end KX G.T.g G.T.b G.T.builtins G.T.nolimit hg C G.T.bmain hs hi (Nat.le_trans hlen hn2) hr hT hI hF hf
end Mp
set_option Elab.async false
set_option linter.all false
set_option maxRecDepth 100000
set_option maxHeartbeats 4000000
/-! mirror functions, run: a pen, what is kept -/
namespace Mp
open PySem PySem.Spec PyProof.Rows L2
/-- all but the place p stays -/
structure Grow (p : Nat) (S S' : Sto) : Prop where
  len : S.length ≤ S'.length
  keep : ∀ l, l ≠ p → l < S.length → S'[l]? = S[l]?
theorem Grow.refl {p S} : Grow p S S := ⟨Nat.le_refl _, fun _ _ _ => rfl⟩
theorem Grow.trans {p S S1 S2} (a : Grow p S S1) (b : Grow p S1 S2) : Grow p S S2 := ⟨Nat.le_trans a.len b.len, fun l h1 h2 => (b.keep l h1 (Nat.lt_of_lt_of_le h2 a.len)).trans (a.keep l h1 h2)⟩
theorem Grow.app {p S} (T : Sto) : Grow p S (S ++ T) := ⟨by simp, fun l _ h => List.getElem?_append_left h⟩
theorem Grow.at {p S S' l ob} (g : Grow p S S') (h : S[l]? = some ob) (n : l ≠ p) : S'[l]? = some ob := by
  rw [g.keep l n (List.getElem?_eq_some_iff.mp h).1]; exact h
/-- a pen at p, read at most k times -/
def PenAt (p k : Nat) (S : Sto) : Prop := ∃ (c a : Nat) (left : Int) (ns : List Int), S[p]? = some (.lst [.loc c, .int (a : Int), .int left]) ∧ S[c]? = some (.lst (ns.map W.int)) ∧ c < p ∧ a ≤ k
theorem PenAt.mono {p k k' S} (h : PenAt p k S) (l : k ≤ k') : PenAt p k' S := by
  obtain ⟨c, a, left, ns, h1, h2, h3, h4⟩ := h
  exact ⟨c, a, left, ns, h1, h2, h3, Nat.le_trans h4 l⟩
theorem PenAt.app {p k S} (h : PenAt p k S) (T : Sto) : PenAt p k (S ++ T) := by
  obtain ⟨c, a, left, ns, h1, h2, h3, h4⟩ := h
  exact ⟨c, a, left, ns, by rw [List.getElem?_append_left (List.getElem?_eq_some_iff.mp h1).1]; exact h1, by rw [List.getElem?_append_left (List.getElem?_eq_some_iff.mp h2).1]; exact h2, h3, h4⟩
theorem PenAt.lt {p k S} (h : PenAt p k S) : p < S.length := by
  obtain ⟨c, a, left, ns, h1, _⟩ := h
  exact (List.getElem?_eq_some_iff.mp h1).1
/-- only places that the pen does not have are written: the pen stays -/
theorem PenAt.set {p k S l ob} (h : PenAt p k S) (hl : ∀ c x y, S[p]? = some (.lst [.loc c, x, y]) → l ≠ c) (hp : l ≠ p) : PenAt p k (S.set l ob) := by
  obtain ⟨c, a, left, ns, h1, h2, h3, h4⟩ := h
  exact ⟨c, a, left, ns, by rw [List.getElem?_set_ne hp]; exact h1, by rw [List.getElem?_set_ne (hl c _ _ h1)]; exact h2, h3, h4⟩
/-! ### values, step by step -/
theorem bin_ok {op : W → W → M W} {fa fb : EM} {ls : LSt} {S S1 S2 S3 : Sto} {v u w : W} (h1 : fa ls S = .ok v S1) (h2 : fb ls S1 = .ok u S2) (h3 : op v u S2 = .ok w S3) : bin op fa fb ls S = .ok w S3 := by
  simp only [bin, h1, h2, h3, Res.bind, NoX]
theorem call1_ok {op : W → M W} {f : EM} {ls : LSt} {S S1 S2 : Sto} {v w : W} (h1 : f ls S = .ok v S1) (h2 : op v S1 = .ok w S2) : eCall (b1 op) (aCons f aNil) ls S = .ok w S2 := by
  simp only [eCall, aCons, aNil, h1, h2, Res.bind, NoX, b1]
theorem opII_ok {C : Int → Int → Bool} {g : Int → Int → W} {i j : Int} {S : Sto} (h : C i j = true) : opII C g (.int i) (.int j) S = .ok (g i j) S := if_pos h
theorem asg_ok {f : EM} {i : Nat} {ls : LSt} {S S1 : Sto} {v : W} (h1 : f ls S = .ok v S1) : sAsg f (gNm i) ls S = .nx (ls.set i (some v)) S1 := by
  simp only [sAsg, h1, toS, gNm, ofG]
theorem mulC1 {i j : Int} (h : (-18446744073709551616 : Int) < i) (h2 : i < 18446744073709551616) : mulC i j = true := by
  unfold mulC
  rw [decide_eq_true h, decide_eq_true h2]; rfl
theorem mulC2 {i j : Int} (h : (-18446744073709551616 : Int) < j) (h2 : j < 18446744073709551616) : mulC i j = true := by
  unfold mulC
  rw [decide_eq_true h, decide_eq_true h2]; simp
theorem powC_ok {i j : Int} (h0 : 0 ≤ j) (h1 : j ≤ 1000000) (h : i.natAbs < 18446744073709551616) : (decide (0 ≤ j) && decide (j ≤ 1000000) && decide (i.natAbs < 18446744073709551616)) = true := by
  rw [decide_eq_true h0, decide_eq_true h1, decide_eq_true h]; rfl
theorem dat_ints {S : Sto} {n : Nat} : ∀ ns : List Int, optAll (dat S n) (ns.map W.int) = some (ns.map PyData.int)
  | [] => rfl
  | i :: ns => by
    have : dat S n (.int i) = some (.int i) := by cases n <;> rfl
    simp only [List.map_cons, optAll, this, dat_ints ns]
theorem dat_lst {S : Sto} {c : Nat} {ns : List Int} (h : S[c]? = some (.lst (ns.map W.int))) : dat S 40 (.loc c) = some (.list (ns.map PyData.int)) := by
  show (match S[c]? with | some (.lst ws) => (optAll (dat S 39) ws).map PyData.list | _ => none) = _
  rw [h]
  simp only [dat_ints, Option.map_some]
theorem eqv_nil (ns : List Int) : PyData.eqv (.list (ns.map PyData.int)) (.list []) = ns.isEmpty := by
  cases ns <;> simp [PyData.eqv, PyData.eqvAll]
theorem pick_ix {ws : List W} {r : Int} (h0 : 0 ≤ r) (h1 : r < ws.length) : ∃ i, i < ws.length ∧ r = (i : Int) := ⟨r.toNat, by omega, by omega⟩
end Mp
set_option Elab.async false
set_option linter.all false
set_option maxRecDepth 100000
set_option maxHeartbeats 4000000
/-! classmethods, read off a class -/
namespace Mp
open PySem PySem.Spec PyProof.Rows L2
open He (ga ma eqO_ok ba)
open PySem.Calls
@[simp] def eCm (c : Nat) (f : BM) (g : AM) : EM := fun ls S => (g ls S).bind fun vs S1 => f (.glo c :: vs) S1
@[simp] def eCmK (c np nk : Nat) (is : List Nat) (ds : List W) (f : BM) (g gk : AM) : EM := fun ls S => (g ls S).bind fun vs S1 => (gk ls S1).bind fun zs S2 => if vs.length = np ∧ zs.length = nk then f (pick is (.glo c :: vs ++ (zs ++ ds))) S2 else .stuck
section
variable {X : Cx} {G : Gi} {Wx : WX} {a b e o : Expr} {pos pos' p2 apos : Pos} {es : List Expr} {fs fk : AM} {x m : Str} {k c : Nat} {p g q : Addr} {mc : Value} {f : BM} {kws : List Keyword} {pl : Sem Bool} {pins : List (Addr × Obj)} {σ : L2.St} {H : Hp} {s : Shared} {C : Addr} {Q : VK}
theorem run_cmR {us : List Value} {vs : List V} (tk : Takes X Wx) (F : FnG X.prog X.w X.K X.mg X.base (CX X.prog X.w) k g (spR G f)) (hr : Rm k X.A) (I : Inv X ((q, PySem.W.methodObj (.ref g) (.ref C)) :: pins) σ H s) (r : Vals vs us)
    (h : spR G f (.ref C :: vs) H Q fun c d H' => Wx c d σ H') : wpAny (model X.prog X.w) X.A (call (.ref q) us) (EP X pins σ Q) X.xe s := by
  have z : wpAny (model X.prog X.w) X.A (call (.ref q) us) (EP X ((q, PySem.W.methodObj (.ref g) (.ref C)) :: pins) σ Q) X.xe s :=
    wpAny_call (PySem.W.method_call (ClX.pin_at I) (run_R (us := .ref C :: us) (vs := .ref C :: vs) tk F hr I (.cons rfl r) h))
  exact thn z fun _ _ y => ClX.unpinE y
theorem e_cm (tk : Takes X Wx) (hK : G.K = X.K) (hr : Rm k X.A) (r : ClX.CRead G.K (G.glo c) mc) (cm : ClX.CMet G.K (G.glo c) mc m p g) (F : FnG X.prog X.w X.K X.mg X.base (CX X.prog X.w) k g (spR G f))
    (ho : PE X o (upE G Wx (cst (.glo c)))) (ha : PA X (e :: es) (upA G Wx fs))
    (hst : starEach (e :: es) X.env = (false, eval e X.env) :: starEach es X.env := by rfl) (hpl : (backTo pos (starEach es X.env)).any (·.1) = false := by rfl)
    (ht : eval (.Call (.Attribute o m apos) (e :: es) [] pos) X.env = (do
      let ov ← eval o X.env
      standAt apos.atName
      let (f, first) ← holding [ov] (getMethod ov m pl)
      callWith pos f first (backTo pos (starEach (e :: es) X.env)) (backToKw pos (keywordEach [] X.env))) := by rfl) :
    PE X (.Call (.Attribute o m apos) (e :: es) [] pos) (upE G Wx (eCm c f fs)) := by
  refine ⟨fun pins s σ H Q I ⟨ρ, ls, S, hs, hh, hp⟩ => ?_⟩
  rw [hK] at r cm
  refine PySem.W.methodCall_KW (pl := pl) (thn (ho.run pins s σ H (fun x H1 => x = .ref (G.glo c) ∧ ∃ ρ1, RelS G ρ1 H1 ls σ ∧ RelH G ρ1 H1 S ∧ Post G ρ1 H1 ((fs ls S).bind fun vs S2 => f (.glo c :: vs) S2) (QW G Q) fun c d H' => Wx c d σ H') I ⟨ρ, ls, S, hs, hh, fun ρ1 H1 s1 h1 x rx => ⟨rx, ρ1, hs.step s1, h1, Post.step s1 hp⟩⟩) fun u s1 ⟨x, H1, I1, ru, ex, ρ1, hs1, h1, q⟩ => ?_) ht
  subst ex
  obtain rfl : u = Value.ref (G.glo c) := ru
  refine ClX.getmethcm_ok I1 r cm fun s2 I2 => ?_
  refine ClX.callwith_cm I2 (ClX.base_none I1 (Nat.le_refl _)) cm.fi (thn (ha.run pos _ s2 σ H1 (fun ys H2 => spR G f (.ref (G.glo c) :: ys) H2 Q fun c d H' => Wx c d σ H') I2 ⟨ρ1, ls, S, hs1, h1, (Post.bind q).mono fun vs S2 ρ2 H2 s2 h2 q3 ys ry => ⟨ρ2, .glo c :: vs, S2, ⟨_, _, rfl, rfl, ry⟩, h2, q3⟩⟩) fun us s3 ⟨vs, H2, I3, rv, q2⟩ => ⟨⟨ClX.pin_at I3, I3.kIn⟩, ?_⟩) hst hpl
  exact run_cmR tk F hr I3 rv q2
theorem run_cmK {us ws : List Value} {vs zs : List V} {fd : FuncData} {ps ks : List Str} {sp : Sp} {is : List Nat} {dvs : List V} {n : Nat} (tk : Takes X Wx) (F : FnO X.prog X.w X.K X.mg X.base (CX X.prog X.w) k g fd ps sp) (hr : Rm k X.A) (hb : KAt X.K fd ps (n + 1) ks is dvs)
    (I : Inv X ((q, PySem.W.methodObj (.ref g) (.ref C)) :: pins) σ H s) (r : Vals vs us) (rz : Vals zs ws) (l1 : vs.length = n) (l2 : zs.length = ks.length)
    (h : sp (pick is (.ref C :: vs ++ (zs ++ dvs))) H Q fun c d H' => Wx c d σ H') : wpAny (model X.prog X.w) X.A (call (.ref q) us (ks.zip ws)) (EP X pins σ Q) X.xe s := by
  obtain ⟨its, hb⟩ := hb
  have rv : Vals (V.ref C :: vs) (Value.ref C :: us) := .cons rfl r
  have r2 := hb.rel rv rz
  have e1 : (Value.ref C :: us).length = n + 1 := rv.length.symm.trans (congrArg Nat.succ l1)
  have e2 : ws.length = ks.length := rz.length.symm.trans l2
  have z : wpAny (model X.prog X.w) X.A (call (.ref q) us (ks.zip ws)) (EP X ((q, PySem.W.methodObj (.ref g) (.ref C)) :: pins) σ Q) X.xe s := by
    refine wpAny_call (PySem.W.method_call (ClX.pin_at I) (codeAny_mono (F.run X.A X.stack s H ⟨_, ks.zip ws⟩ _ _ Q _ hr I.env0 (hb.to _ _ ws I.kIn e1 e2) r2 h) fun z s' hz => ?_))
    cases z with
    | error e => exact passAt tk σ _ H s e s' I hz
    | ok fl =>
      cases fl with
      | ret u => exact I.after hz
      | next => exact False.elim hz
      | brk => exact False.elim hz
      | cont => exact False.elim hz
  exact thn z fun _ _ y => ClX.unpinE y
theorem cmK_spec {np nk N : Nat} {is : List Nat} {ds : List W} {dvs : List V} {ρ1 : Rho} {H1 : Hp} {S1 : Sto} {ws zs : List W} {vs ys : List V} {E : XK}
    (rd : ∀ ρ H, RelWs G ρ H ds dvs) (hN : is.length = N) (hbd : ∀ i ∈ is, i < 1 + np + nk + ds.length) (rs : RelWs G ρ1 H1 ws vs) (rz : RelWs G ρ1 H1 zs ys) (h1 : RelH G ρ1 H1 S1) (z1 : ws.length = np) (z2 : zs.length = nk)
    (q : Post G ρ1 H1 (f (pick is (.glo c :: ws ++ (zs ++ ds))) S1) (QW G Q) E) : spN G N f (pick is (.ref (G.glo c) :: vs ++ (ys ++ dvs))) H1 Q E := by
  have r0 : RelWs G ρ1 H1 (.glo c :: ws ++ (zs ++ ds)) (.ref (G.glo c) :: vs ++ (ys ++ dvs)) :=
    RelWs.append (ws := .glo c :: ws) (xs := .ref (G.glo c) :: vs) ⟨_, _, rfl, rfl, rs⟩ (rz.append (rd _ _))
  have hlen : (.glo c :: ws ++ (zs ++ ds)).length = 1 + np + nk + ds.length := by simp [z1, z2]; omega
  have hpl : (pick is (.glo c :: ws ++ (zs ++ ds))).length = N := by
    rw [← hN]
    have : ∀ js : List Nat, (∀ i ∈ js, i < (.glo c :: ws ++ (zs ++ ds)).length) → (pick js (.glo c :: ws ++ (zs ++ ds))).length = js.length := by
      intro js
      induction js with
      | nil => intro _; rfl
      | cons i js ih =>
        intro h
        unfold pick at ih ⊢
        rw [List.filterMap_cons_some (List.getElem?_eq_getElem (h i List.mem_cons_self))]
        simp only [List.length_cons]
        rw [ih fun j hj => h j (List.mem_cons_of_mem _ hj)]
    exact this is fun i hi => by rw [hlen]; exact hbd i hi
  exact ⟨ρ1, _, S1, r0.pick is, h1, hpl, q⟩
theorem e_cmK0 {N : Nat} {is : List Nat} {ds : List W} {dvs : List V} {fd : FuncData} {ps ks : List Str} (rd : ∀ ρ H, RelWs G ρ H ds dvs) (hN : is.length = N) (hbd : ∀ i ∈ is, i < 1 + 0 + ks.length + ds.length)
    (tk : Takes X Wx) (hK : G.K = X.K) (hr : Rm k X.A) (r : ClX.CRead G.K (G.glo c) mc) (cm : ClX.CMet G.K (G.glo c) mc m p g) (F : FnO X.prog X.w X.K X.mg X.base (CX X.prog X.w) k g fd ps (spN G N f)) (hb : KAt X.K fd ps (0 + 1) ks is dvs)
    (ho : PE X o (upE G Wx (cst (.glo c)))) (hk : PK X kws (upA G Wx fk))
    (hall : (backToKw pos (keywordEach kws X.env)).all (·.1.isSome) = true := by rfl) (hks : (backToKw pos (keywordEach kws X.env)).filterMap (·.1) = ks := by rfl)
    (hpl : ((backTo pos (starEach [] X.env)).any (·.1) || (backToKw pos (keywordEach kws X.env)).any (·.1.isNone)) = false := by rfl)
    (ht : eval (.Call (.Attribute o m apos) [] kws pos) X.env = (do
      let ov ← eval o X.env
      standAt apos.atName
      let (f, first) ← holding [ov] (getMethod ov m pl)
      callWith pos f first (backTo pos (starEach [] X.env)) (backToKw pos (keywordEach kws X.env))) := by rfl) :
    PE X (.Call (.Attribute o m apos) [] kws pos) (upE G Wx (eCmK c 0 ks.length is ds f aNil fk)) := by
  refine ⟨fun pins s σ H Q I ⟨ρ, ls, S, hs, hh, hp⟩ => ?_⟩
  rw [hK] at r cm
  have hp : Post G ρ H ((fk ls S).bind fun zs S1 => if ([] : List W).length = 0 ∧ zs.length = ks.length then f (pick is (.glo c :: [] ++ (zs ++ ds))) S1 else .stuck) (QW G Q) (fun c d H' => Wx c d σ H') := hp
  refine PySem.W.methodCall_KW (pl := pl) (thn (ho.run pins s σ H (fun x H1 => x = .ref (G.glo c) ∧ ∃ ρ1, RelS G ρ1 H1 ls σ ∧ RelH G ρ1 H1 S ∧ Post G ρ1 H1 ((fk ls S).bind fun zs S1 => if ([] : List W).length = 0 ∧ zs.length = ks.length then f (pick is (.glo c :: [] ++ (zs ++ ds))) S1 else .stuck) (QW G Q) fun c d H' => Wx c d σ H') I ⟨ρ, ls, S, hs, hh, fun ρ1 H1 s1 h1 x rx => ⟨rx, ρ1, hs.step s1, h1, Post.step s1 hp⟩⟩) fun u s1 ⟨x, H1, I1, ru, ex, ρ1, hs1, h1, q⟩ => ?_) ht
  subst ex
  obtain rfl : u = Value.ref (G.glo c) := ru
  refine ClX.getmethcm_ok I1 r cm fun s2 I2 => ?_
  refine PySem.W.callWith_of (P := PySem.W.MethP X.K s1.heap.objs.size g (.ref (G.glo c))) hpl (PySem.W.keeps_M cm.fi) (evalArgs_kw2_nil hall ?_)
  refine thn (hk.run pos _ s2 σ H1 (fun ys H1 => ∃ ρ1 zs S1, RelWs G ρ1 H1 zs ys ∧ RelH G ρ1 H1 S1 ∧ Post G ρ1 H1 (if ([] : List W).length = 0 ∧ zs.length = ks.length then f (pick is (.glo c :: [] ++ (zs ++ ds))) S1 else .stuck) (QW G Q) fun c d H' => Wx c d σ H') I2 ⟨ρ1, ls, S, hs1, h1, (Post.bind q).mono fun zs S1 ρ1 H1 s1 h1 q ys rz => ⟨ρ1, zs, S1, rz, h1, q⟩⟩) fun ws s3 ⟨ys, H2, I3, r, ρ2, zs, S1, rz, h2, q2⟩ => ⟨⟨ClX.pin_at I3, I3.kIn⟩, ?_⟩
  rw [hks]
  by_cases z : ([] : List W).length = 0 ∧ zs.length = ks.length
  · rw [if_pos z] at q2
    exact run_cmK (vs := []) (us := []) tk F hr hb I3 .nil r rfl (by rw [← rz.len]; exact z.2) (cmK_spec (np := 0) (nk := ks.length) rd hN hbd (ws := []) (vs := []) rfl rz h2 rfl z.2 q2)
  · rw [if_neg z] at q2; exact q2.elim
end
/-! ### their facts as Bools -/
def crB (K : PySem.W.Frag) (C : Addr) : Bool := PySem.W.readsIn K C (.type "type") && He.eqO (PySem.W.specialIn K (.ref C) "__getattribute__") (some (some (.builtin "type.__getattribute__")))
theorem crB_ok {K : PySem.W.Frag} {C : Addr} (h : crB K C = true) : ClX.CRead K C (.type "type") := by
  obtain ⟨h1, h2⟩ := ba h
  exact ⟨h1, eqO_ok h2⟩
/-- where a classmethod's def stands -/
def cmA (K : PySem.W.Frag) (C : Addr) (m : Str) : Addr := match PySem.W.recIn K (ma K C m) "classmethod" with
  | some (.ref f :: _) => f
  | _ => 0
def cmB (K : PySem.W.Frag) (C : Addr) (m : Str) (g : Addr) : Bool := (match PySem.W.findCls K (.ref C) (.type "type") m with
    | some (.get (.builtin b) (.ref p) .none (.ref D)) => decide (b = "classmethod.__get__") && (decide (p = ma K C m) && decide (D = C))
    | _ => false) && ((match PySem.W.recIn K (ma K C m) "classmethod" with
    | some (.ref f :: _) => decide (f = g)
    | _ => false) && PySem.W.fnIn K g)
theorem cmB_ok {K : PySem.W.Frag} {C g : Addr} {m : Str} (h : cmB K C m g = true) : ClX.CMet K C (.type "type") m (ma K C m) g := by
  obtain ⟨h1, h⟩ := ba h
  obtain ⟨h2, h3⟩ := ba h
  refine ⟨?_, ?_, h3⟩
  · clear h2
    split at h1
    · rename_i b p D e
      obtain ⟨k1, k⟩ := ba h1
      obtain ⟨k2, k3⟩ := ba k
      rw [e, of_decide_eq_true k1, of_decide_eq_true k2, of_decide_eq_true k3]
    · cases h1
  · split at h2
    · rename_i f r e
      obtain rfl := of_decide_eq_true h2
      exact ⟨r, e⟩
    · cases h2
end Mp
set_option Elab.async false
set_option linter.all false
set_option maxRecDepth 100000
set_option maxHeartbeats 4000000
/-! mirror functions, run: texts in lists, comprehensions -/
namespace Mp
open PySem PySem.Spec PyProof.Rows L2
theorem dat_s {S : Sto} {n : Nat} {z : Str} : dat S n (.str z) = some (.str z) := by cases n <;> rfl
theorem dat_strs {S : Sto} {n : Nat} : ∀ zs : List Str, optAll (dat S n) (zs.map W.str) = some (zs.map PyData.str)
  | [] => rfl
  | z :: zs => by simp only [List.map_cons, optAll, dat_s, dat_strs zs]
theorem dat_slst {S : Sto} {c : Nat} {zs : List Str} (h : S[c]? = some (.lst (zs.map W.str))) : dat S 40 (.loc c) = some (.list (zs.map PyData.str)) := by
  show (match S[c]? with | some (.lst ws) => (optAll (dat S 39) ws).map PyData.list | _ => none) = _
  rw [h]
  simp only [dat_strs, Option.map_some]
theorem eqv_ss {a b : Str} : PyData.eqv (.str a) (.str b) = decide (a = b) := by
  show (a == b) = _
  rfl
theorem any_ss {w : Str} : ∀ zs : List Str, ((zs.map PyData.str).any fun y => PyData.eqv y (.str w)) = decide (w ∈ zs)
  | [] => by simp
  | z :: zs => by
    rw [List.map_cons, List.any_cons, any_ss zs, eqv_ss]
    by_cases h : z = w
    · simp [h]
    · have : ¬ w = z := fun e => h e.symm
      simp [h, this]
theorem any_ns : ∀ zs : List Str, ((zs.map PyData.str).any fun y => PyData.eqv y .none) = false
  | [] => by simp
  | z :: zs => by
    rw [List.map_cons, List.any_cons, any_ns zs]; simp [PyData.eqv]
/-- `x not in [texts]` -/
theorem nin_l {S : Sto} {c : Nat} {zs : List Str} {w : Str} (h : S[c]? = some (.lst (zs.map W.str))) : els (datIn true) (dctIn true) (.str w) (.loc c) S = .ok (.bl (!decide (w ∈ zs))) S := by
  have e := dat_slst h
  simp only [els, datIn, dat_s, e, Option.bind_some, seqOf, any_ss, if_true]
theorem nin_ln {S : Sto} {c : Nat} {zs : List Str} (h : S[c]? = some (.lst (zs.map W.str))) : els (datIn true) (dctIn true) .non (.loc c) S = .ok (.bl true) S := by
  have e := dat_slst h
  have e0 : dat S 40 .non = some .none := rfl
  simp only [els, datIn, e0, e, Option.bind_some, seqOf, any_ns, if_true, Bool.not_false]
theorem dat_stup {S : Sto} {zs : List Str} : dat S 40 (.tup (zs.map W.str)) = some (.tuple (zs.map PyData.str)) := by
  show (optAll (dat S 39) (zs.map W.str)).map PyData.tuple = _
  simp only [dat_strs, Option.map_some]
theorem nin_t {S : Sto} {zs : List Str} {w : Str} : els (datIn true) (dctIn true) (.str w) (.tup (zs.map W.str)) S = .ok (.bl (!decide (w ∈ zs))) S := by
  simp only [els, datIn, dat_s, dat_stup, Option.bind_some, seqOf, any_ss, if_true]
theorem nin_tn {S : Sto} {zs : List Str} : els (datIn true) (dctIn true) .non (.tup (zs.map W.str)) S = .ok (.bl true) S := by
  have e0 : dat S 40 .non = some .none := rfl
  simp only [els, datIn, e0, dat_stup, Option.bind_some, seqOf, any_ns, if_true, Bool.not_false]
/-! ### comprehensions -/
section
variable {g : GW} {t : TM} {e : EM} {l0 : Nat} {ls : LSt}
theorem set_same {S : Sto} {l : Nat} {o : Ob} (h : S[l]? = some o) : S.set l o = S := by
  apply List.ext_getElem?
  intro i
  by_cases q : l = i
  · subst q
    rw [List.getElem?_set_self (List.getElem?_eq_some_iff.mp h).1, h]
  · rw [List.getElem?_set_ne q]
/-- one value for each number of a range -/
theorem lcGo_rng {lo : Int} {n : Nat} (f : Nat → W) (he : ∀ i, i < n → ∃ ls2, g (.int (lo + i)) ls = some ls2 ∧ ∀ S, t ls2 S = .ok true S ∧ e ls2 S = .ok (f i) S) :
    ∀ (m i : Nat) (S : Sto) (acc : List W), i + m = n → S[l0]? = some (.lst acc) → acc.length + m ≤ big → lcGo (.rng lo n) g t e l0 ls (m + 1) i S = .ok () (S.set l0 (.lst (acc ++ (List.range' i m).map f)))
  | 0, i, S, acc, hi, hl, _ => by
    have : ¬ i < n := by omega
    unfold lcGo
    simp only [itNext, if_neg this, List.range'_zero, List.map_nil, List.append_nil, set_same hl]
  | m + 1, i, S, acc, hi, hl, hb => by
    have h1 : i < n := by omega
    obtain ⟨ls2, g1, g2⟩ := he i h1
    have hlt := (List.getElem?_eq_some_iff.mp hl).1
    have ih := lcGo_rng f he m (i + 1) (S.set l0 (.lst (acc ++ [f i]))) (acc ++ [f i]) (by omega) (List.getElem?_set_self hlt) (by simp; omega)
    have hb2 : acc.length < big := by omega
    unfold lcGo
    simp only [itNext, if_pos h1, g1, (g2 S).1, (g2 S).2, NoX, Res.bind, if_true, lstOf, hl, if_pos hb2]
    rw [ih, List.set_set, List.range'_succ, List.map_cons, List.append_assoc]; rfl
/-- the signs of a text that a test takes -/
theorem lcGo_str {z : Str} (p : Nat → Bool) (he : ∀ c ∈ z.cps.toList, ∃ ls2, g (.str ⟨#[c]⟩) ls = some ls2 ∧ ∀ S, t ls2 S = .ok (p c) S ∧ e ls2 S = .ok (.str ⟨#[c]⟩) S) :
    ∀ (m i : Nat) (S : Sto) (acc : List W), i + m = z.cps.size → S[l0]? = some (.lst acc) → acc.length + m ≤ big → lcGo (.str z) g t e l0 ls (m + 1) i S = .ok () (S.set l0 (.lst (acc ++ ((z.cps.toList.drop i).filter p).map fun c => W.str ⟨#[c]⟩)))
  | 0, i, S, acc, hi, hl, _ => by
    have q : z.cps[i]? = none := by simp; omega
    have q2 : z.cps.toList.drop i = [] := List.drop_eq_nil_of_le (by simp; omega)
    unfold lcGo
    simp only [itNext, q, Option.map_none, q2, List.filter_nil, List.map_nil, List.append_nil, set_same hl]
  | m + 1, i, S, acc, hi, hl, hb => by
    have h1 : i < z.cps.size := by omega
    have q : z.cps[i]? = some z.cps[i] := Array.getElem?_eq_getElem h1
    have q2 : z.cps.toList.drop i = z.cps[i] :: z.cps.toList.drop (i + 1) := by
      rw [List.drop_eq_getElem_cons (by simpa using h1)]; simp
    obtain ⟨ls2, g1, g2⟩ := he z.cps[i] (by simp)
    have hlt := (List.getElem?_eq_some_iff.mp hl).1
    have hb2 : acc.length < big := by omega
    unfold lcGo
    simp only [itNext, q, Option.map_some, g1, (g2 S).1, (g2 S).2, NoX, Res.bind, lstOf, hl, if_pos hb2]
    rw [q2]
    cases hp : p z.cps[i] with
    | true =>
      simp only [if_true]
      rw [lcGo_str p he m (i + 1) (S.set l0 (.lst (acc ++ [W.str ⟨#[z.cps[i]]⟩]))) (acc ++ [W.str ⟨#[z.cps[i]]⟩]) (by omega) (List.getElem?_set_self hlt) (by simp; omega), List.set_set, List.filter_cons_of_pos hp, List.map_cons, List.append_assoc]; rfl
    | false =>
      simp only [Bool.false_eq_true, if_false]
      rw [lcGo_str p he m (i + 1) S acc (by omega) hl (by omega), List.filter_cons_of_neg (by simp [hp])]
/-- no item of a list is taken; what is kept is kept -/
theorem lcGo_none {l : Nat} {ws : List W} (P : Sto → Prop) (hP : ∀ S, P S → S[l]? = some (.lst ws)) (ht : ∀ w ∈ ws, ∀ S, P S → ∃ ls2 S', g w ls = some ls2 ∧ t ls2 S = .ok false S' ∧ P S') :
    ∀ (m i : Nat) (S : Sto), i + m = ws.length → P S → ∃ S', lcGo (.lst l) g t e l0 ls (m + 1) i S = .ok () S' ∧ P S'
  | 0, i, S, hi, h => by
    have q : ws[i]? = none := by simp; omega
    exact ⟨S, by unfold lcGo; simp only [itNext, hP S h, q], h⟩
  | m + 1, i, S, hi, h => by
    have h1 : i < ws.length := by omega
    have q : ws[i]? = some ws[i] := List.getElem?_eq_getElem h1
    obtain ⟨ls2, S', g1, g2, h2⟩ := ht ws[i] (List.getElem_mem h1) S h
    obtain ⟨S'', e1, h3⟩ := lcGo_none P hP ht m (i + 1) S' (by omega) h2
    exact ⟨S'', by unfold lcGo; simp only [itNext, hP S h, q, g1, g2, NoX, Res.bind, Bool.false_eq_true, if_false, e1], h3⟩
end
end Mp
set_option Elab.async false
set_option linter.all false
set_option maxRecDepth 100000
set_option maxHeartbeats 4000000
/-! isinstance of a tuple of classes -/
namespace Mp
open PySem PySem.Spec PyProof.Rows L2
def anyK (n : Nat) (sub : Nat → Nat → Bool) (k : Kd) : List W → Option Bool
  | [] => some false
  | u :: us => match isiK n sub k u with
    | some a => match anyK n sub k us with
      | some b => some (a || b)
      | none => none
    | none => none
@[simp] def isiT (n : Nat) (sub : Nat → Nat → Bool) : BM := fun vs S => match vs with
  | [v, .tup us] => match kdW v S with
    | some k => if xkK sub k = true then .stuck else match isiK n sub k (.ty "int") with
      | some _ => match anyK n sub k us with
        | some r => .ok (.bl r) S
        | none => .stuck
      | none => .stuck
    | none => .stuck
  | _ => .stuck
section
variable {G : Gi} {n : Nat} {sub : Nat → Nat → Bool}
theorem isiK_kd {k : Kd} {u : W} {r : Bool} {ρ H y} (T : KitT G.toGb n sub) (hb : ∀ a, k = .b a → a ∈ tyNs) (e : isiK n sub k u = some r) (ru : RelW G.toGb ρ H u y) : ∃ w, ClsV y w ∧ PySem.W.kitOne G.K (tyV_ G.toGb k) w = some r := by
  cases k with
  | c c => exact isiK_ok T e ru
  | b a =>
    have ha := hb a rfl
    cases u with
    | ty b =>
      cases ru
      simp only [isiK] at e
      by_cases z : (tyNs.contains b && b != "NoneType") = true
      · rw [if_pos z] at e
        cases e
        simp only [Bool.and_eq_true, List.contains_iff_mem, bne_iff_ne] at z
        exact ⟨.type b, .ty b, kit_ty (tyTab_ok a ha b z.1 z.2)⟩
      · rw [if_neg z] at e; cases e
    | glo d =>
      cases ru
      simp only [isiK] at e
      by_cases z : d < n
      · rw [if_pos z] at e
        cases e
        exact ⟨.ref (G.glo d), .own _, by rw [T.gl d z]; exact T.k1 a ha d z⟩
      · rw [if_neg z] at e; cases e
    | _ => cases e
theorem anyK_ok {k : Kd} {ρ H} (T : KitT G.toGb n sub) (hb : ∀ a, k = .b a → a ∈ tyNs) : ∀ {us : List W} {ys : List V} {r : Bool}, RelWs G.toGb ρ H us ys → anyK n sub k us = some r → ∃ ws, Paired ClsV ys ws ∧ PySem.W.kitAny G.K (tyV_ G.toGb k) ws = some r
  | [], ys, r, rs, e => by
    cases e
    have : ys = [] := rs
    subst this
    exact ⟨[], .nil, kitAny_nil⟩
  | u :: us, ys, r, ⟨y, zs, e1, r1, rs⟩, e => by
    subst e1
    unfold anyK at e
    cases q1 : isiK n sub k u with
    | none => rw [q1] at e; cases e
    | some a =>
      rw [q1] at e
      cases q2 : anyK n sub k us with
      | none => rw [q2] at e; cases e
      | some b =>
        rw [q2] at e
        simp only [Option.some.injEq] at e
        obtain ⟨w, c1, k1⟩ := isiK_kd T hb q1 r1
        obtain ⟨ws, c2, k2⟩ := anyK_ok T hb rs q2
        refine ⟨w :: ws, .cons c1 c2, kitAny_cons k1 (fun z => ?_) (fun z => ?_)⟩
        · rw [z, Bool.false_or] at e; rw [← e]; exact k2
        · rw [z, Bool.true_or] at e; exact e.symm
end
section
variable {X : Cx} {G : Gi} {n : Nat} {sub : Nat → Nat → Bool}
theorem c_isiT (hK : G.K = X.K) (T : KitT G.toGb n sub) : CallR X (.builtin "isinstance") (upC G (isiT n sub)) := by
  rintro pins s σ H xs us Q I r ⟨ρ, vs, S, rv, hh, hp⟩
  cases vs with
  | nil => exact hp.elim
  | cons v vs =>
    cases vs with
    | nil => exact hp.elim
    | cons u vs =>
      cases vs with
      | cons _ _ => cases u <;> exact hp.elim
      | nil =>
        cases u with
        | tup cs =>
          obtain ⟨x, y, rfl, r1, r2⟩ := rel2 rv
          have hp : Post G ρ H (match kdW v S with
            | some k => if xkK sub k = true then .stuck else match isiK n sub k (.ty "int") with
              | some _ => match anyK n sub k cs with
                | some r => .ok (.bl r) S
                | none => .stuck
              | none => .stuck
            | none => .stuck) (QW G Q) NoE := hp
          cases q1 : kdW v S with
          | none => rw [q1] at hp; exact hp.elim
          | some k =>
            rw [q1] at hp
            simp only at hp
            cases z0 : xkK sub k with
            | true => rw [z0] at hp; exact hp.elim
            | false =>
              rw [z0, if_neg (by simp)] at hp
              cases q3 : isiK n sub k (.ty "int") with
              | none => rw [q3] at hp; exact hp.elim
              | some r3 =>
              rw [q3] at hp
              simp only at hp
              cases q2 : anyK n sub k cs with
              | none => rw [q2] at hp; exact hp.elim
              | some b =>
                rw [q2] at hp
                have hQ := hp ρ H .refl hh _ rfl
                have hb : ∀ a, k = .b a → a ∈ tyNs := fun a ea => kdW_b (ea ▸ q1)
                obtain ⟨a, ys, rfl, tt, rs⟩ := r2
                obtain ⟨ws, c2, k2⟩ := anyK_ok T hb rs q2
                have ty := kd_ty T r1 hh q1 q3 z0
                rw [hK] at ty k2
                obtain ⟨u1, u2, rfl, rx, ry⟩ := vals2 r
                obtain rfl : u2 = Value.ref a := ry
                obtain ⟨P, Z, p, hx⟩ := kit_of I rx ty
                have sq : SqT X.K H a ys := by rw [← hK]; exact tt.sq
                obtain ⟨its, rv2, ⟨⟨oc, od, dt, sl⟩, h1, h2, m, h3⟩, _⟩ := I.tuple sq
                have e3 := ClsV.all c2 rv2
                subst e3
                simp only at h2 h3
                subst h2 h3
                exact PySem.W.kia_tup Z I.kIn p h1 k2 hx fun tk => ⟨.bl b, H, I.tok tk, rfl, hQ⟩
        | _ => exact hp.elim
end
end Mp
set_option Elab.async false
set_option linter.all false
set_option maxRecDepth 100000
set_option maxHeartbeats 4000000
/-! C() where no __init__ is written -/
namespace Mp
open PySem PySem.Spec PyProof.Rows L2
open PySem.Calls
/-- made by the plain way, __init__ is object's -/
structure Mk0 (K : PySem.W.Frag) (C : Addr) : Prop where
  made : PySem.W.makesIn K C = true
  ini : NwS.Init0 K C
  kp : PySem.W.keepIn K (.ref C) = true
section
variable {X : Cx} {G : Gi} {Wx : WX} {pos p : Pos} {x : Str} {k : Nat}
@[simp] def eNew0 (fin : Nat → Nat → Nat → M W) (c n : Nat) : EM := fun _ S => fin c n S.length (S ++ [.obj c []])
theorem run_mk0 {pins : List (Addr × Obj)} {σ : L2.St} {H : Hp} {s : Shared} {Q : VK} {C : Addr} (M : Mk0 X.K C) (I : Inv X pins σ H s)
    (h : ∀ x dx, H x = none → H dx = none → dx ≠ x → Q (.ref x) (upd (upd H dx (.own x)) x (.ins C dx []))) :
    wpAny (model X.prog X.w) X.A (call (.ref C) []) (EP X pins σ Q) X.xe s := by
  have J := Inv.made (C := C) I
  have told := h _ _ (I.hok.fresh (Nat.le_succ _)) (I.hok.fresh (Nat.le_refl _)) (Nat.ne_of_lt (Nat.lt_succ_self _))
  have ⟨_, inst, _⟩ := ins_get J.hok upd_same
  have ⟨_, there, _⟩ := inst.look
  have isObj : PySem.W.Looks (model X.prog X.w) ((s.heap.push PySem.W.emptyDict).push (PySem.W.instObj C s.heap.objs.size)) (isInstance (.ref (s.heap.objs.size + 1)) (.type "object")) true := there.type.andThen (PySem.W.looks_mroIn J.kIn M.ini.top)
  refine wpAny_call (make_map0 I.kIn M.made M.ini.init (fun _ => .of_pure (PySem.W.oi_bind _)) (codeAny_call_builtin PySem.W.oi_plain PySem.W.entry_oi (PySem.W.check_slot PySem.W.oi_kind PySem.W.oi_split isObj (PySem.W.oi_args _) ?_)))
  exact PySem.W.oi_run _ ▸ wpAny_pure ⟨rfl, V.ref (s.heap.objs.size + 1), _, J, rfl, told⟩
theorem e_new0 {cn n : Nat} {fin : Nat → Nat → Nat → M W} (hfin : ∀ {ρ H S l a Q E}, RelH G ρ H S → ρ l = some a → Post G ρ H (fin cn n l S) (QW G Q) E → Q (.ref a) H) (hK : G.K = X.K) (M : Mk0 G.K (G.cls cn)) (hg : Gl X x) (hm : X.mg x = some (.ref (G.cls cn)))
    (hdb : (x == ("__debug__" : Str)) = false := by decide) : PE X (.Call (.Name x p) [] [] pos) (upE G Wx (eNew0 fin cn n)) := by
  refine ⟨fun pins s σ H Q I ⟨ρ, ls, S, hs, hh, hp⟩ => ?_⟩
  have M' : Mk0 X.K (G.cls cn) := hK ▸ M
  refine wpAny_Call_Name_kw (ld_glob I hg hm (PySem.W.callWith_K0 I.kIn M'.kp (run_mk0 (Q := Q) M' I fun x dx hx hd ne => ?_)) hdb)
  obtain ⟨st, hm2⟩ := made_H (c := cn) hh hx hd ne
  have hp : Post G ρ H (fin cn n S.length (S ++ [.obj cn []])) (QW G Q) fun c d H' => Wx c d σ H' := hp
  exact hfin hm2 ext_same (Post.step st hp)
end
/-! its facts -/
def mk0B (K : PySem.W.Frag) (C : Addr) : Bool := PySem.W.makesIn K C && (He.eqO (PySem.W.findIn K (.ref C) "__init__") (some (some (.builtin "object.__init__"))) && (decide (PySem.W.mroIn K C (.type "object") = some true) && PySem.W.keepIn K (.ref C)))
theorem mk0B_ok {K : PySem.W.Frag} {C : Addr} (h : mk0B K C = true) : Mk0 K C := by
  simp only [mk0B, Bool.and_eq_true, decide_eq_true_eq] at h
  exact ⟨h.1, ⟨h.2.2.1, He.eqO_ok h.2.1⟩, h.2.2.2⟩
end Mp
set_option Elab.async false
set_option linter.all false
set_option maxRecDepth 100000
set_option maxHeartbeats 4000000
/-! a dict of the module with text keys: its keys in order; heads with such dicts -/
namespace Mp
open PySem PySem.Spec PyProof.Rows L2
/-- the written dict at d has these keys, in this order -/
structure KeyD (K : PySem.W.Frag) (w : World) (d : Addr) (ks : List Str) : Prop where
  ex : ∃ es n, KDict K w d es n ∧ es.toList.map He.keyOf = He.keysIn w.params ks
  nd : ks.Nodup
  sz : ks.length ≤ 1000
theorem pairs_of {P : Program} {w : World} : ∀ {es : List DictEntry} {ks : List Str}, es.map He.keyOf = He.keysIn w.params ks → Pairs (mixKind P w) es (ks.zip (es.map (·.val)) |>.map fun p => ((Sum.inr p.1 : Key), p.2)) ∧ ∀ e ∈ es, ∃ k : Key, (mixKind P w).is k e.key = true ∧ e.hash = (mixKind P w).hash k
  | [], [], _ => ⟨.nil, fun e he => nomatch he⟩
  | [], _ :: _, h => by cases h
  | e :: r, [], h => by cases h
  | e :: r, k :: ks, h => by
    have h1 : He.keyOf e :: r.map He.keyOf = some (k, PyData.keyHash w.params k) :: He.keysIn w.params ks := h
    injection h1 with h2 h3
    obtain ⟨p, q⟩ := pairs_of (P := P) h3
    have hk : ∃ t, e.key = .str k t ∧ e.hash = PyData.keyHash w.params k := by
      unfold He.keyOf at h2
      split at h2
      · rename_i x t q
        have h4 := Option.some.inj h2
        obtain ⟨h5, h6⟩ := Prod.mk.inj h4
        exact ⟨t, by rw [q, h5], h6⟩
      · cases h2
    obtain ⟨t, e1, e2⟩ := hk
    refine ⟨.cons (by rw [e1]; exact mixKind_str P w k t) rfl p, fun e' he' => ?_⟩
    rcases List.mem_cons.mp he' with rfl | he'
    · exact ⟨.inr k, by rw [e1]; exact mixKind_str P w k t, e2⟩
    · exact q e' he'
theorem zip_fst {α β : Type} : ∀ (l : List α) (m : List β), l.length = m.length → (l.zip m).map (·.1) = l
  | [], _, _ => rfl
  | a :: l, [], h => by simp at h
  | a :: l, b :: m, h => by
    rw [List.zip_cons_cons, List.map_cons, zip_fst l m (by simpa using h)]
theorem inr_nodup : ∀ {ks : List Str}, ks.Nodup → (ks.map (Sum.inr : Str → Key)).Nodup
  | [], _ => .nil
  | k :: ks, h => by
    rw [List.nodup_cons] at h
    rw [List.map_cons, List.nodup_cons]
    refine ⟨fun z => ?_, inr_nodup h.2⟩
    obtain ⟨y, hy, e⟩ := List.mem_map.mp z
    injection e with e
    exact h.1 (e ▸ hy)
theorem KeyD.dict {P : Program} {K : PySem.W.Frag} {w : World} {d : Addr} {ks : List Str} {h : Heap} (D : KeyD K w d ks) (X : K.In h) : ∃ (kvs : List (Key × Value)) (ep : Nat), h.DictAt (mixKind P w) d kvs ep ∧ kvs.map (·.1) = ks.map Sum.inr ∧ (d == sysModules) = false := by
  obtain ⟨es, n, kd, hk⟩ := D.ex
  obtain ⟨p, q⟩ := pairs_of (P := P) hk
  have hl : ks.length = (es.toList.map (·.val)).length := by
    have e := congrArg List.length hk
    rw [List.length_map, He.keysIn, List.length_map] at e
    rw [List.length_map]; exact e.symm
  have hf : ((ks.zip (es.toList.map (·.val))).map fun p => ((Sum.inr p.1 : Key), p.2)).map (·.1) = ks.map Sum.inr := by
    rw [List.map_map]
    have : ((fun x : Key × Value => x.1) ∘ fun p : Str × Value => ((Sum.inr p.1 : Key), p.2)) = (Sum.inr : Str → Key) ∘ (·.1) := rfl
    rw [this, ← List.map_map, zip_fst _ _ hl]
  refine ⟨_, n, ⟨_, es, X _ _ kd.at_, ⟨rfl, rfl, rfl⟩, rfl, fun e he => q e (Array.mem_toList_iff.mpr he), p, ?_⟩, hf, kd.low⟩
  rw [hf]
  exact inr_nodup D.nd
section
variable {X : Cx} {G : Gi} {Wx : WX} {pos p p2 : Pos} {x : Str} {ks : List Str}
/-- list(D), D a dict of the module with these keys -/
@[simp] def eKeys (ks : List Str) : EM := fun _ S => .ok (.loc S.length) (S ++ [.lst (ks.map W.str)])
theorem call_listK {d : Addr} (D : KeyD X.K X.w d ks) (hc : X.calm = true) : CallR X (.type "list") (fun xs H Q => xs = [.ref d] ∧ ∀ p, H p = none → Q (.ref p) (upd H p (.lst (ks.map V.str)))) := by
  intro pins s σ H xs us Q I r q
  obtain ⟨ex, q⟩ := q
  subst ex
  obtain ⟨u, eu, rx⟩ := vals1 r
  subst eu
  cases rx
  obtain ⟨vs, ep, hat, hf, lo⟩ := D.dict (P := X.prog) I.kIn
  have ek : (ks.map V.str) = vs.map fun p => kV p.1 := by
    have e := congrArg (List.map kV) hf
    rw [List.map_map, List.map_map] at e
    exact e.symm
  have hz : vs.length ≤ sizeLine := by
    have e := congrArg List.length hf
    rw [List.length_map, List.length_map] at e
    have h1 : (1000 : Nat) ≤ big := by unfold big; omega
    exact le_line (by rw [e]; exact Nat.le_trans D.sz h1)
  refine PySem.W.kdl_call (PySem.W.kdl_dict (knd := mixKind X.prog X.w) (kvs := vs) (ep := ep) lo) (I.ok.hd hc) hat hz fun h' tk acc c' hk hD hacc => ?_
  have hv : Vals (vs.map fun p => kV p.1) acc.toList := keys_at (by rw [Array.length_toList]; exact hacc.1) fun j v e => hacc.2 j v (by rw [← Array.getElem?_toList]; exact e)
  refine ⟨.ref s.heap.objs.size, upd H s.heap.objs.size (.lst (ks.map V.str)), I.laid (t' := tk) hk (Nat.le_refl _)
    (show ObjOk X.prog X.w _ _ _ (.lst (ks.map V.str)) from ⟨by rw [ek, List.length_map]; exact hz, acc.toList, c', by rw [ek]; exact hv, by rw [Array.toArray_toList]; exact hD⟩), rfl, q _ (I.hok.fresh (Nat.le_refl _))⟩
theorem e_listK {d : Addr} (D : KeyD X.K X.w d ks) (hg : Gl X "list") (hm : X.mg "list" = none) (hg2 : Gl X x) (hm2 : X.mg x = some (.ref d)) (hc : X.calm = true := by rfl) (hd : (x == ("__debug__" : Str)) = false := by decide)
    (he : starEach [.Name x p2] X.env = (false, eval (.Name x p2) X.env) :: starEach [] X.env := by rfl) : PE X (.Call (.Name "list" p) [.Name x p2] [] pos) (upE G Wx (eKeys ks)) :=
  PE.imp (fun σ H Q ⟨ρ, ls, S, hs, hh, hp⟩ => ⟨rfl, fun q np => hp _ _ (Step.new_ hh np) (lst_new hh np (RelWs.strs _)) _ ⟨q, ext_same, rfl⟩⟩)
    (pe_callTy (call_listK D hc) hg hm boot_list (pa_cons (pe_glob (v := .ref d) hg2 hm2 rfl hd) pa_nil) (by decide) (by decide) he rfl)
end
/-! ### the Hook with such dicts -/
abbrev Tb : Type := (PySem.W.Frag → Addr) × List Str
abbrev AlT : Type := AlM × List (Option (List (Option (Str × Int))))
def obT (ex : PySem.W.Frag → Bool) (fn : List Fd) (tf : List Ct) (ds : List Tb) (g : Addr → Option Obj) (K : PySem.W.Frag) : AlT := (obM ex fn tf g K, ds.map fun t => He.dicW K (t.1 K))
def vlT (fn : List Fd) (ds : List Tb) (w : World) : AlT := (vlM fn, ds.map fun t => some (He.keysIn w.params t.2))
def obTG (n : Nat) (ex : PySem.W.Frag → Bool) (fn : List Fd) (tf : List Ct) (ds : List Tb) (g : Addr → Option Obj) : AlT := obT ex fn tf ds g (He.frT g (asM g n))
structure SaysT (ex : PySem.W.Frag → Bool) (fn : List Fd) (tf : List Ct) (ds : List Tb) (w : World) (h : Heap) (K : PySem.W.Frag) : Prop where
  m : SaysM ex fn tf h K
  dc : ∀ (i : Nat) (t : Tb), ds[i]? = some t → ∃ es n, KDict K w (t.1 K) es n ∧ es.toList.map He.keyOf = He.keysIn w.params t.2
theorem dicW_keys {K : PySem.W.Frag} {w : World} {a : Addr} {ks : List Str} (h : He.dicW K a = some (He.keysIn w.params ks)) : ∃ es n, KDict K w a es n ∧ es.toList.map He.keyOf = He.keysIn w.params ks := by
  obtain ⟨es, n, kd⟩ := He.dicW_ok h
  refine ⟨es, n, kd, ?_⟩
  unfold He.dicW at h
  rw [kd.at_] at h
  have e : (match decide ("dict" = "dict") && ((#[] : Array (Option Value)).isEmpty && !(a == sysModules)) with
    | true => some (es.toList.map He.keyOf)
    | false => none) = some (He.keysIn w.params ks) := h
  rw [kd.low] at e
  exact Option.some.inj e
theorem saysT_of {n : Nat} {ex : PySem.W.Frag → Bool} {fn : List Fd} {tf : List Ct} {ds : List Tb} {w : World} {h : Heap} (e : obTG n ex fn tf ds h.get? = vlT fn ds w) : SaysT ex fn tf ds w h (He.frT h.get? (asM h.get? n)) := by
  refine ⟨saysM_of (congrArg Prod.fst e), fun i t ht => ?_⟩
  have e2 : ds.map (fun t => He.dicW (He.frT h.get? (asM h.get? n)) (t.1 (He.frT h.get? (asM h.get? n)))) = ds.map fun t => some (He.keysIn w.params t.2) := congrArg Prod.snd e
  have e3 : (ds.map fun t => He.dicW (He.frT h.get? (asM h.get? n)) (t.1 (He.frT h.get? (asM h.get? n))))[i]? = (ds.map fun t => some (He.keysIn w.params t.2))[i]? := by rw [e2]
  rw [List.getElem?_map, List.getElem?_map, ht] at e3
  exact dicW_keys (Option.some.inj e3)
def hookT (n : Nat) (ex : PySem.W.Frag → Bool) (fn : List Fd) (tf : List Ct) (ds : List Tb) : PySem.W.Hook where
  α := AlT
  obs := fun s => obTG n ex fn tf ds s.heap.get?
  val := fun w => vlT fn ds w
  says := fun w h => ∃ K : PySem.W.Frag, K.In h ∧ SaysT ex fn tf ds w h K
  of := fun _ _ e => ⟨_, He.frT_in, saysT_of e⟩
  keeps := fun _ _ _ ⟨K, hK, c⟩ k => ⟨K, PySem.W.Frag.In.keeps hK k, ⟨⟨c.m.ex, c.m.df, c.m.hd, c.m.out, fun p hp => k _ _ (c.m.emp p hp)⟩, c.dc⟩⟩
theorem obT_eq {n : Nat} {ex : PySem.W.Frag → Bool} {fn : List Fd} {tf : List Ct} {ds : List Tb} (s : PySem.W.SharedT) : obTG n ex fn tf ds (HandSHeadRun.getT s) = (hookT n ex fn tf ds).obs s.abs := by
  have e : HandSHeadRun.getT s = s.abs.heap.get? := funext (HandSHeadRun.getT_eq s)
  rw [e]
  rfl
end Mp
set_option Elab.async false
set_option linter.all false
set_option maxRecDepth 100000
set_option maxHeartbeats 4000000
/-! defs of the module, called by name of their parameters -/
namespace Mp
open PySem PySem.Spec PyProof.Rows L2
@[simp] def eFnK (np nk : Nat) (is : List Nat) (ds : List W) (f : BM) (g gk : AM) : EM := fun ls S => (g ls S).bind fun vs S1 => (gk ls S1).bind fun zs S2 => if vs.length = np ∧ zs.length = nk then f (pick is (vs ++ (zs ++ ds))) S2 else .stuck
section
variable {X : Cx} {G : Gi} {Wx : WX} {a b e o : Expr} {pos pos' p2 p : Pos} {es : List Expr} {fs fk : AM} {x m : Str} {k c : Nat} {g : Addr} {f : BM} {kws : List Keyword} {pins : List (Addr × Obj)} {σ : L2.St} {H : Hp} {s : Shared} {Q : VK}
theorem run_fnK {us ws : List Value} {vs zs : List V} {fd : FuncData} {ps ks : List Str} {sp : Sp} {is : List Nat} {dvs : List V} {n : Nat} (tk : Takes X Wx) (F : FnO X.prog X.w X.K X.mg X.base (CX X.prog X.w) k g fd ps sp) (hr : Rm k X.A) (hb : KAt X.K fd ps n ks is dvs)
    (I : Inv X pins σ H s) (r : Vals vs us) (rz : Vals zs ws) (l1 : vs.length = n) (l2 : zs.length = ks.length)
    (h : sp (pick is (vs ++ (zs ++ dvs))) H Q fun c d H' => Wx c d σ H') : wpAny (model X.prog X.w) X.A (call (.ref g) us (ks.zip ws)) (EP X pins σ Q) X.xe s := by
  obtain ⟨its, hb⟩ := hb
  have r2 := hb.rel r rz
  have e1 : us.length = n := r.length.symm.trans l1
  have e2 : ws.length = ks.length := rz.length.symm.trans l2
  refine wpAny_call (codeAny_mono (F.run X.A X.stack s H ⟨_, ks.zip ws⟩ _ _ Q _ hr I.env0 (hb.to _ _ ws I.kIn e1 e2) r2 h) fun z s' hz => ?_)
  cases z with
  | error e => exact passAt tk σ _ H s e s' I hz
  | ok fl =>
    cases fl with
    | ret u => exact I.after hz
    | next => exact False.elim hz
    | brk => exact False.elim hz
    | cont => exact False.elim hz
theorem fnK_spec {np nk N : Nat} {is : List Nat} {ds : List W} {dvs : List V} {ρ1 : Rho} {H1 : Hp} {S1 : Sto} {ws zs : List W} {vs ys : List V} {E : XK}
    (rd : ∀ ρ H, RelWs G ρ H ds dvs) (hN : is.length = N) (hbd : ∀ i ∈ is, i < np + nk + ds.length) (rs : RelWs G ρ1 H1 ws vs) (rz : RelWs G ρ1 H1 zs ys) (h1 : RelH G ρ1 H1 S1) (z1 : ws.length = np) (z2 : zs.length = nk)
    (q : Post G ρ1 H1 (f (pick is (ws ++ (zs ++ ds))) S1) (QW G Q) E) : spN G N f (pick is (vs ++ (ys ++ dvs))) H1 Q E := by
  have r0 : RelWs G ρ1 H1 (ws ++ (zs ++ ds)) (vs ++ (ys ++ dvs)) := RelWs.append rs (rz.append (rd _ _))
  have hlen : (ws ++ (zs ++ ds)).length = np + nk + ds.length := by simp [z1, z2]; omega
  have hpl : (pick is (ws ++ (zs ++ ds))).length = N := by
    rw [← hN]
    have : ∀ js : List Nat, (∀ i ∈ js, i < (ws ++ (zs ++ ds)).length) → (pick js (ws ++ (zs ++ ds))).length = js.length := by
      intro js
      induction js with
      | nil => intro _; rfl
      | cons i js ih =>
        intro h
        unfold pick at ih ⊢
        rw [List.filterMap_cons_some (List.getElem?_eq_getElem (h i List.mem_cons_self))]
        simp only [List.length_cons]
        rw [ih fun j hj => h j (List.mem_cons_of_mem _ hj)]
    exact this is fun i hi => by rw [hlen]; exact hbd i hi
  exact ⟨ρ1, _, S1, r0.pick is, h1, hpl, q⟩
theorem e_fnK0 {N : Nat} {is : List Nat} {ds : List W} {dvs : List V} {fd : FuncData} {ps ks : List Str} (rd : ∀ ρ H, RelWs G ρ H ds dvs) (hN : is.length = N) (hbd : ∀ i ∈ is, i < 0 + ks.length + ds.length)
    (tk : Takes X Wx) (F : FnO X.prog X.w X.K X.mg X.base (CX X.prog X.w) k g fd ps (spN G N f)) (hr : Rm k X.A) (hb : KAt X.K fd ps 0 ks is dvs) (hg : Gl X x) (hm : X.mg x = some (.ref g)) (hkp : PySem.W.keepIn X.K (.ref g) = true) (hk : PK X kws (upA G Wx fk))
    (hall : (backToKw pos (keywordEach kws X.env)).all (·.1.isSome) = true := by rfl) (hks : (backToKw pos (keywordEach kws X.env)).filterMap (·.1) = ks := by rfl) (hdb : (x == ("__debug__" : Str)) = false := by decide)
    (hpl : ((backTo pos (starEach [] X.env)).any (·.1) || (backToKw pos (keywordEach kws X.env)).any (·.1.isNone)) = false := by rfl) :
    PE X (.Call (.Name x p) [] kws pos) (upE G Wx (eFnK 0 ks.length is ds f aNil fk)) := by
  refine ⟨fun pins s σ H Q I ⟨ρ, ls, S, hs, hh, hp⟩ => ?_⟩
  have hp : Post G ρ H ((fk ls S).bind fun zs S1 => if ([] : List W).length = 0 ∧ zs.length = ks.length then f (pick is ([] ++ (zs ++ ds))) S1 else .stuck) (QW G Q) (fun c d H' => Wx c d σ H') := hp
  refine wpAny_Call_Name_kw (ld_glob I hg hm ?_ hdb)
  refine PySem.W.callWith_KW0 (h₀ := X.base) I.ok.mod.kin hkp hall (thn (hk.run pos pins s σ H (fun ys H1 => ∃ ρ1 zs S1, RelWs G ρ1 H1 zs ys ∧ RelH G ρ1 H1 S1 ∧ Post G ρ1 H1 (if ([] : List W).length = 0 ∧ zs.length = ks.length then f (pick is ([] ++ (zs ++ ds))) S1 else .stuck) (QW G Q) fun c d H' => Wx c d σ H') I ⟨ρ, ls, S, hs, hh, (Post.bind hp).mono fun zs S1 ρ1 H1 s1 h1 q ys rz => ⟨ρ1, zs, S1, rz, h1, q⟩⟩) fun ws s1 ⟨ys, H1, I1, r, ρ1, zs, S1, rz, h1, q⟩ => ⟨I1.kIn, ?_⟩) hpl
  rw [hks]
  by_cases z : ([] : List W).length = 0 ∧ zs.length = ks.length
  · rw [if_pos z] at q
    exact run_fnK (vs := []) (us := []) tk F hr hb I1 .nil r rfl (by rw [← rz.len]; exact z.2) (fnK_spec (np := 0) (nk := ks.length) rd hN hbd (ws := []) (vs := []) rfl rz h1 rfl z.2 q)
  · rw [if_neg z] at q; exact q.elim
theorem e_fnK {N np : Nat} {is : List Nat} {ds : List W} {dvs : List V} {fd : FuncData} {ps ks : List Str} (rd : ∀ ρ H, RelWs G ρ H ds dvs) (hN : is.length = N) (hbd : ∀ i ∈ is, i < np + ks.length + ds.length)
    (tk : Takes X Wx) (F : FnO X.prog X.w X.K X.mg X.base (CX X.prog X.w) k g fd ps (spN G N f)) (hr : Rm k X.A) (hb : KAt X.K fd ps np ks is dvs) (hg : Gl X x) (hm : X.mg x = some (.ref g)) (hkp : PySem.W.keepIn X.K (.ref g) = true) (ha : PA X (e :: es) (upA G Wx fs)) (hk : PK X kws (upA G Wx fk))
    (hall : (backToKw pos (keywordEach kws X.env)).all (·.1.isSome) = true := by rfl) (hks : (backToKw pos (keywordEach kws X.env)).filterMap (·.1) = ks := by rfl) (hdb : (x == ("__debug__" : Str)) = false := by decide) (he : starEach (e :: es) X.env = (false, eval e X.env) :: starEach es X.env := by rfl)
    (hpl : ((backTo pos (starEach (e :: es) X.env)).any (·.1) || (backToKw pos (keywordEach kws X.env)).any (·.1.isNone)) = false := by rfl) :
    PE X (.Call (.Name x p) (e :: es) kws pos) (upE G Wx (eFnK np ks.length is ds f fs fk)) := by
  refine ⟨fun pins s σ H Q I ⟨ρ, ls, S, hs, hh, hp⟩ => ?_⟩
  refine wpAny_Call_Name_kw (ld_glob I hg hm ?_ hdb)
  refine PySem.W.callWith_KW (h₀ := X.base) I.ok.mod.kin hkp hall (thn (ha.run pos pins s σ H (fun vs H1 => ∃ ρ1 ws S1, RelWs G ρ1 H1 ws vs ∧ RelS G ρ1 H1 ls σ ∧ RelH G ρ1 H1 S1 ∧ Post G ρ1 H1 ((fk ls S1).bind fun zs S2 => if ws.length = np ∧ zs.length = ks.length then f (pick is (ws ++ (zs ++ ds))) S2 else .stuck) (QW G Q) fun c d H' => Wx c d σ H') I ⟨ρ, ls, S, hs, hh, (Post.bind hp).mono fun ws S1 ρ1 H1 s1 h1 q vs rs => ⟨ρ1, ws, S1, rs, hs.step s1, h1, q⟩⟩) fun us s1 ⟨vs, H1, I1, r, ρ1, ws, S1, rs, hs1, h1, q⟩ => ?_) hpl he
  refine thn (hk.run pos pins s1 σ H1 (fun ys H2 => ∃ ρ2 zs S2, RelWs G ρ2 H2 ws vs ∧ RelWs G ρ2 H2 zs ys ∧ RelH G ρ2 H2 S2 ∧ Post G ρ2 H2 (if ws.length = np ∧ zs.length = ks.length then f (pick is (ws ++ (zs ++ ds))) S2 else .stuck) (QW G Q) fun c d H' => Wx c d σ H') I1 ⟨ρ1, ls, S1, hs1, h1, (Post.bind q).mono fun zs S2 ρ2 H2 s2 h2 q2 ys rz => ⟨ρ2, zs, S2, rs.step s2, rz, h2, q2⟩⟩) fun wz s2 ⟨ys, H2, I2, r2, ρ2, zs, S2, rs2, rz, h2, q2⟩ => ⟨I2.kIn, ?_⟩
  rw [hks]
  by_cases z : ws.length = np ∧ zs.length = ks.length
  · rw [if_pos z] at q2
    exact run_fnK tk F hr hb I2 r r2 (by rw [← rs.len]; exact z.1) (by rw [← rz.len]; exact z.2) (fnK_spec rd hN hbd rs2 rz h2 z.1 z.2 q2)
  · rw [if_neg z] at q2; exact q2.elim
end
end Mp
set_option Elab.async false
set_option linter.all false
set_option maxRecDepth 100000
set_option maxHeartbeats 4000000
namespace GQ
open PySem PySem.SeqAt
open AutoSeq1 (wpAny_loadPart')
open MeetsSeq MeetsSeq2 MeetsSeq3 SeqRoads2
section
variable {prog : Program} {w : World} {A : Around} {R : Result → Shared → Prop}
/-- ==, != of tuples, item by item: J is what holds while the pairs rest are still to be looked at -/
theorem tuple_eqR (l b : Addr) (items items2 : Array Value) (n n2 : Nat) (dd dd2 : Option Addr) (sl sl2 : Array (Option Value)) (J : List (Value × Value) → Shared → Prop) (D : Shared → Prop)
    (turn : ∀ y x rest s, J ((y, x) :: rest) s → wpAny (model prog w) A.in1 (eqBool y x) (fun r s' => r = true ∧ J rest s' ∨ r = false ∧ D s') (fun e s' => R (.error e) s') s)
    (fin : ∀ s, J [] s → R (.ok (.ret (.bool (items.size == items2.size)))) s) (dif : ∀ s, D s → R (.ok (.ret (.bool false))) s)
    {s : Shared} (atL : s.heap.get? l = some { cls := .type "tuple", dict := dd, data := .seq items n, slots := sl }) (atB : s.heap.get? b = some { cls := .type "tuple", dict := dd2, data := .seq items2 n2, slots := sl2 })
    (start : J (items.toList.zip items2.toList) s) : wpAny (model prog w) A.in1 (Builtin.«tuple.__eq__» ⟨[.ref l, .ref b], []⟩) (FinOf prog w A R) (fun e s' => R (.error e) s') s := by
  have same := AutoSeq1.sub_tuple_tuple
  obtain ⟨heap, gens, drawn, toks, os⟩ := s
  wp_walk using wpAny_loadPart' atL, wpAny_loadPart' atB, wpAny_forIn_list _ (fun rest b s' => b.1 = none ∧ J rest s') _
  case h => exact ⟨rfl, start⟩
  case fin =>
    rintro ⟨_, _⟩ s' ⟨rfl, now⟩
    have told := fin s' now
    wp_walk
    simpa [Builtin.Tuple.tupleCompareSizes] using told
  case turn =>
    rintro ⟨y, x⟩ rest ⟨_, _⟩ s' ⟨rfl, now⟩
    refine wpAny_bind (wpAny_mono (turn y x rest s' now) ?_ fun _ _ e => e)
    rintro _ s2 (⟨rfl, q⟩ | ⟨rfl, q⟩) <;> wp_walk
    · exact ⟨rfl, q⟩
    · exact dif _ q
theorem tuple_neR (l b : Addr) (items items2 : Array Value) (n n2 : Nat) (dd dd2 : Option Addr) (sl sl2 : Array (Option Value)) (J : List (Value × Value) → Shared → Prop) (D : Shared → Prop)
    (turn : ∀ y x rest s, J ((y, x) :: rest) s → wpAny (model prog w) A.in1 (eqBool y x) (fun r s' => r = true ∧ J rest s' ∨ r = false ∧ D s') (fun e s' => R (.error e) s') s)
    (fin : ∀ s, J [] s → R (.ok (.ret (.bool (items.size != items2.size)))) s) (dif : ∀ s, D s → R (.ok (.ret (.bool true))) s)
    {s : Shared} (atL : s.heap.get? l = some { cls := .type "tuple", dict := dd, data := .seq items n, slots := sl }) (atB : s.heap.get? b = some { cls := .type "tuple", dict := dd2, data := .seq items2 n2, slots := sl2 })
    (start : J (items.toList.zip items2.toList) s) : wpAny (model prog w) A.in1 (Builtin.«tuple.__ne__» ⟨[.ref l, .ref b], []⟩) (FinOf prog w A R) (fun e s' => R (.error e) s') s := by
  have same := AutoSeq1.sub_tuple_tuple
  obtain ⟨heap, gens, drawn, toks, os⟩ := s
  wp_walk using wpAny_loadPart' atL, wpAny_loadPart' atB, wpAny_forIn_list _ (fun rest b s' => b.1 = none ∧ J rest s') _
  case h => exact ⟨rfl, start⟩
  case fin =>
    rintro ⟨_, _⟩ s' ⟨rfl, now⟩
    have told := fin s' now
    wp_walk
    simpa [Builtin.Tuple.tupleCompareSizes] using told
  case turn =>
    rintro ⟨y, x⟩ rest ⟨_, _⟩ s' ⟨rfl, now⟩
    refine wpAny_bind (wpAny_mono (turn y x rest s' now) ?_ fun _ _ e => e)
    rintro _ s2 (⟨rfl, q⟩ | ⟨rfl, q⟩) <;> wp_walk
    · exact ⟨rfl, q⟩
    · exact dif _ q
end
end GQ
namespace Mp
open PySem PySem.Spec PyProof.Rows L2 PySem.SeqAt PySem.Calls
/-! ### == of tuples that hold own objects -/
def simW : W → Bool
  | .int _ | .str _ | .bl _ | .non => true
  | _ => false
section
variable {X : Cx} {G : Gi} {k : Nat}
theorem sim_inj {ρ : Rho} {H : Hp} {v u : W} {x : V} (h1 : simW v = true) (h2 : simW u = true) (r1 : RelW G.toGb ρ H v x) (r2 : RelW G.toGb ρ H u x) : v = u := by
  cases v <;> cases h1 <;> cases u <;> cases h2 <;> first | (cases r1; cases r2; rfl) | (cases r1; cases r2)
theorem sims_inj {ρ : Rho} {H : Hp} : ∀ {vs us : List W} {xs : List V}, vs.all simW = true → us.all simW = true → RelWs G.toGb ρ H vs xs → RelWs G.toGb ρ H us xs → vs = us
  | [], us, xs, _, _, r1, r2 => by
    have : xs = [] := r1
    subst this
    cases us with
    | nil => rfl
    | cons u us => obtain ⟨y, ys, e, _⟩ := r2; cases e
  | v :: vs, us, xs, h1, h2, ⟨y, ys, e, a, b⟩, r2 => by
    subst e
    cases us with
    | nil => cases r2
    | cons u us =>
      obtain ⟨y', ys', e', a', b'⟩ := r2
      cases e'
      simp only [List.all_cons, Bool.and_eq_true] at h1 h2
      rw [sim_inj h1.1 h2.1 a a', sims_inj h1.2 h2.2 b b']
open Classical in
/-- two own objects, compared within a tuple: nothing of the store may change -/
noncomputable def itE (n : Nat) (sub : Nat → Nat → Bool) (tab : Nat → Option BM) (S : Sto) : W → W → Option Bool := fun v u => match v, u with
  | .ins c fs, .ins d gs => match tab c with
    | some g => if nfK n sub c (.c d) = true ∧ c < n ∧ d < n ∧ sub d d = true ∧ fs.all simW = true ∧ gs.all simW = true then
        match g [.ins c fs, .ins d gs] S with
        | .ok (.bl b) S' => if S' = S ∧ ((c = d ∧ fs = gs) → b = true) then some b else none
        | _ => none
      else none
    | none => none
  | _, _ => none
noncomputable def itsE (n : Nat) (sub : Nat → Nat → Bool) (tab : Nat → Option BM) (S : Sto) : List W → List W → Option Bool
  | v :: vs, u :: us => match itE n sub tab S v u with
    | some true => itsE n sub tab S vs us
    | some false => some false
    | none => none
  | [], [] => some true
  | _, _ => some false
noncomputable def seqT (neg : Bool) (n : Nat) (sub : Nat → Nat → Bool) (tab : Nat → Option BM) : W → W → M W := fun v u S => match v, u with
  | .tup vs, .tup us => match itsE n sub tab S vs us with
    | some b => .ok (.bl (if neg then !b else b)) S
    | none => .stuck
  | _, _ => .stuck
theorem item_ok {n sub} {tab : Nat → Option BM} (hK : G.K = X.K) (hr : Rm (k + 1) X.A) (KT : KitT G n sub) (ET : EqT G n sub) (T : ∀ c, DuOk X.prog X.w X.mg X.base G k "__eq__" c (tab c))
    {pins : List (Addr × Obj)} {σ : L2.St} {H : Hp} {s : Shared} {ρ : Rho} {S : Sto} {v u : W} {x y : V} {va ua : Value} {b : Bool} (I : Inv X pins σ H s) (rx : RelV x va) (ry : RelV y ua) (rv : RelW G.toGb ρ H v x) (ru : RelW G.toGb ρ H u y) (hh : RelH G ρ H S)
    (e : itE n sub tab S v u = some b) : wpAny (model X.prog X.w) X.A.in1 (eqBool va ua) (fun r s' => r = b ∧ ∃ ρ' H', Inv X pins σ H' s' ∧ Step ρ H ρ' H' ∧ RelH G ρ' H' S) X.xe s := by
  cases v with
  | ins c fs =>
    cases u with
    | ins d gs =>
      simp only [itE] at e
      have Tc := T c
      cases q2 : tab c with
      | none => rw [q2] at e; cases e
      | some g =>
        rw [q2] at e Tc
        simp only at e
        obtain ⟨fa, h1, h2, F⟩ := Tc
        rw [hK] at h1 h2 F
        by_cases z : nfK n sub c (.c d) = true ∧ c < n ∧ d < n ∧ sub d d = true ∧ fs.all simW = true ∧ gs.all simW = true
        · rw [if_pos z] at e
          obtain ⟨z1, z2, z3, z4, z5, z6⟩ := z
          cases q4 : g [.ins c fs, .ins d gs] S with
          | ok w S' =>
            rw [q4] at e
            cases w with
            | bl b' =>
              simp only at e
              by_cases y : S' = S ∧ ((c = d ∧ fs = gs) → b' = true)
              · rw [if_pos y] at e
                cases e
                obtain ⟨rfl, yb⟩ := y
                have q1 : objV (.ins c fs) S' = some (c, fs) := rfl
                obtain ⟨a, ox, od, rfl, J⟩ := rel_inst I hh rv q1
                obtain rfl : va = Value.ref a := rx
                have q1' : objV (.ins d gs) S' = some (d, gs) := rfl
                obtain ⟨a', ox', od', rfl, J'⟩ := rel_inst I hh ru q1'
                obtain rfl : ua = Value.ref a' := ry
                by_cases hab : a = a'
                · subst hab
                  refine SeqAt.EqAt.same (A := X.A.in1) (s := s) (.ref a) X.prog X.w X.xe _ ⟨?_, ρ, H, I, .refl, hh⟩
                  obtain ⟨a1, xs, e1, ⟨_, l1, dx, i1⟩, r1⟩ := rv
                  obtain ⟨a2, ys, e2, ⟨_, l2, dy, i2⟩, r2⟩ := ru
                  cases e1; cases e2
                  rw [i1] at i2
                  injection i2 with i2
                  injection i2 with i2 i3 i4
                  have hcd : c = d := by
                    by_cases hcd : c = d
                    · exact hcd
                    · exfalso
                      simp only [nfK, Bool.or_eq_true, beq_iff_eq, Bool.and_eq_true, decide_eq_true_eq, Bool.not_eq_true'] at z1
                      rcases z1.1 with h | h
                      · exact hcd h.symm
                      · have k1 := KT.k3 d z3 c z2
                        have k2 := KT.k3 d z3 d z3
                        rw [i2, k2, z4, h.2] at k1
                        cases k1
                  subst hcd
                  have hxy : xs = ys := by
                    have e3 := congrArg (List.map Prod.snd) i4
                    rw [List.map_snd_zip (by omega), List.map_snd_zip (by omega)] at e3
                    exact e3
                  subst hxy
                  exact (yb ⟨rfl, sims_inj z5 z6 r1 r2⟩).symm
                · have hi : isiK n sub (.c d) (.glo c) ≠ none := by
                    simp only [isiK, if_pos z3, if_pos z2]; simp
                  obtain ⟨r0, hr0⟩ := Option.ne_none_iff_exists'.mp hi
                  have hx : xkK sub (.c d) = false := by
                    have h := z1
                    simp only [nfK, Bool.and_eq_true, Bool.not_eq_true'] at h
                    exact h.2
                  have ty := kd_ty KT ru hh (show kdW (.ins d gs) S' = some (.c d) from rfl) hr0 hx
                  rw [hK] at ty
                  obtain ⟨P, Z, pz, _⟩ := kit_of I (show RelV (V.ref a') (Value.ref a') from rfl) ty
                  have nf := nf_ok ET (show kdW (.ins d gs) S' = some (.c d) from rfl) z1
                  rw [hK] at nf
                  obtain ⟨m, hF⟩ := I.fr
                  refine GQ.eqBool_refG hab ?_
                  refine PySem.W.cmp_K (op := .Eq) hr.in1.units0 hF I.ok.mod.kin J (Z.ty _ _ I.kIn pz) nf h1 h2 ?_
                  refine wpAny_mono (du_run (vs := [.ref a, .ref a']) (Q := fun y H' => y = .bl b ∧ ∃ ρ', Step ρ H ρ' H' ∧ RelH G ρ' H' S') F hr.in1 I.env0.in1 I (.cons rfl (.cons rfl .nil)) ⟨ρ, [.ins c fs, .ins d gs], S', ⟨_, _, rfl, rv, _, _, rfl, ru, rfl⟩, hh, ?_⟩) (fun y' s' hy => ?_) fun _ _ z => z
                  · rw [q4]
                    exact fun ρ' H' st h3 x' rx' => ⟨rx', ρ', st, h3⟩
                  · obtain ⟨x', H', I', rx', rfl, ρ', st, h3⟩ := hy
                    cases rx'
                    exact ⟨b, rfl, rfl, ρ', H', I', st, h3⟩
              · rw [if_neg y] at e; cases e
            | _ => cases e
          | exc _ _ _ => rw [q4] at e; cases e
          | stuck => rw [q4] at e; cases e
        · rw [if_neg z] at e; cases e
    | _ => cases e
  | _ => cases e
/-- what stays while items are looked at -/
def Now (X : Cx) (G : Gi) (pins : List (Addr × Obj)) (σ : L2.St) (ρ : Rho) (H : Hp) (S : Sto) (s' : Shared) : Prop := ∃ ρ' H', Inv X pins σ H' s' ∧ Step ρ H ρ' H' ∧ RelH G ρ' H' S
/-- values of ours, and the row of a tuple that holds them -/
def Row (G : Gi) (ρ : Rho) (H : Hp) (ws : List W) (its : List Value) : Prop := ∃ xs, RelWs G.toGb ρ H ws xs ∧ Vals xs its
theorem Row.none {ρ : Rho} {H : Hp} : ∀ {ws : List W}, Row G ρ H ws [] → ws = []
  | [], _ => rfl
  | _ :: _, ⟨_, ⟨_, _, rfl, _⟩, v⟩ => nomatch v
theorem Row.one {ρ : Rho} {H : Hp} {u : Value} {its : List Value} : ∀ {ws : List W}, Row G ρ H ws (u :: its) → ∃ w ws' x, ws = w :: ws' ∧ RelW G.toGb ρ H w x ∧ RelV x u ∧ Row G ρ H ws' its
  | [], ⟨_, (e : _ = []), v⟩ => by subst e; cases v
  | w :: ws, ⟨_, ⟨x, xs, rfl, r, rs⟩, .cons a v⟩ => ⟨w, ws, x, rfl, r, a, xs, rs, v⟩
theorem tup_row {pins : List (Addr × Obj)} {σ : L2.St} {H : Hp} {s : Shared} {ρ : Rho} {x : V} {va : Value} {ws : List W} (hK : G.K = X.K) (I : Inv X pins σ H s) (rx : RelV x va) (rv : RelW G.toGb ρ H (.tup ws) x) :
    ∃ (l : Addr) (its : List Value) (n : Nat) (dd : Option Addr) (sl : Array (Option Value)), va = .ref l ∧ s.heap.get? l = some { cls := .type "tuple", dict := dd, data := .seq its.toArray n, slots := sl } ∧ Row G ρ H ws its := by
  obtain ⟨l, xs, rfl, t, r⟩ := rv
  obtain ⟨its, v, ⟨o, at_, cl, n, dt⟩, _⟩ := I.tuple (hK ▸ t.sq : SqT X.K H l xs)
  exact ⟨l, its, n, o.dict, o.slots, rx, by rw [at_]; cases o; cases cl; cases dt; rfl, xs, r, v⟩
/-- the pairs that are left: the answer is still b -/
def Left (X : Cx) (G : Gi) (n : Nat) (sub : Nat → Nat → Bool) (tab : Nat → Option BM) (pins : List (Addr × Obj)) (σ : L2.St) (ρ : Rho) (H : Hp) (S : Sto) (b long : Bool) (rest : List (Value × Value)) (s' : Shared) : Prop :=
  Now X G pins σ ρ H S s' ∧ ∃ ws us is js, rest = List.zip is js ∧ Row G ρ H ws is ∧ Row G ρ H us js ∧ itsE n sub tab S ws us = some b ∧ (is.length == js.length) = long
section
variable {n : Nat} {sub : Nat → Nat → Bool} {tab : Nat → Option BM} {pins : List (Addr × Obj)} {σ : L2.St} {H : Hp} {ρ : Rho} {S : Sto} {b long : Bool} {s' : Shared}
theorem left_turn (hK : G.K = X.K) (hr : Rm (k + 1) X.A) (KT : KitT G n sub) (ET : EqT G n sub) (T : ∀ c, DuOk X.prog X.w X.mg X.base G k "__eq__" c (tab c)) {y x : Value} {rest : List (Value × Value)}
    (z : Left X G n sub tab pins σ ρ H S b long ((y, x) :: rest) s') : wpAny (model X.prog X.w) X.A.in1 (eqBool y x) (fun r s2 => r = true ∧ Left X G n sub tab pins σ ρ H S b long rest s2 ∨ r = false ∧ b = false ∧ Now X G pins σ ρ H S s2) X.xe s' := by
  obtain ⟨⟨ρ', H', I', st, h'⟩, ws, us, is, js, e, r1, r2, q, hl⟩ := z
  match is, js, e with
  | _ :: is, _ :: js, e =>
    cases e
    obtain ⟨v, ws, vx, rfl, rv, av, r1⟩ := r1.one
    obtain ⟨u, us, ux, rfl, ru, au, r2⟩ := r2.one
    simp only [itsE] at q
    cases q1 : itE n sub tab S v u with
    | none => simp [q1] at q
    | some r =>
      rw [q1] at q
      refine wpAny_mono (item_ok hK hr KT ET T I' av au (rv.step st) (ru.step st) h' q1) (fun r' s2 ⟨e2, ρ2, H2, I2, st2, h2⟩ => ?_) fun _ _ e => e
      have now : Now X G pins σ ρ H S s2 := ⟨ρ2, H2, I2, st.trans st2, h2⟩
      cases r with
      | true => exact .inl ⟨e2, now, ws, us, is, js, rfl, r1, r2, q, by rw [← hl]; simp⟩
      | false => exact .inr ⟨e2, (Option.some.inj q).symm, now⟩
theorem left_end (z : Left X G n sub tab pins σ ρ H S b long [] s') : long = b := by
  obtain ⟨_, ws, us, is, js, e, r1, r2, q, hl⟩ := z
  match is, js, e with
  | [], [], _ =>
    obtain rfl := r1.none
    obtain rfl := r2.none
    exact hl.symm.trans (Option.some.inj q)
  | [], _ :: js, _ =>
    obtain rfl := r1.none
    obtain ⟨u, us, _, rfl, _⟩ := r2.one
    exact hl.symm.trans ((show (0 == js.length + 1) = false by simp).trans (Option.some.inj q))
  | _ :: is, [], _ =>
    obtain rfl := r2.none
    obtain ⟨w, ws, _, rfl, _⟩ := r1.one
    exact hl.symm.trans ((show (is.length + 1 == 0) = false by simp).trans (Option.some.inj q))
end
theorem seqT_no {neg : Bool} {n : Nat} {sub : Nat → Nat → Bool} {tab : Nat → Option BM} {v u : W} {ρ : Rho} {H : Hp} {S : Sto} {Q : W → Sto → Rho → Hp → Prop} {E : XK} (z : ¬ ∃ ws us, v = .tup ws ∧ u = .tup us) (hp : Post G ρ H (seqT neg n sub tab v u S) Q E) : False := by
  cases v with
  | tup ws => cases u with
    | tup us => exact z ⟨ws, us, rfl, rfl⟩
    | _ => exact hp
  | _ => exact hp
theorem o_seqE {n sub} {tab : Nat → Option BM} (hK : G.K = X.K) (hr : Rm (k + 1) X.A) (KT : KitT G n sub) (ET : EqT G n sub) (T : ∀ c, DuOk X.prog X.w X.mg X.base G k "__eq__" c (tab c)) : OpR X (compareOp .Eq) (upR G (seqT false n sub tab)) := by
  rintro pins s σ H x y va ua Q I rx ry ⟨ρ, v, u, S, rv, ru, hh, hp⟩
  by_cases z : ∃ ws us, v = .tup ws ∧ u = .tup us
  · obtain ⟨ws, us, rfl, rfl⟩ := z
    simp only [seqT] at hp
    cases q : itsE n sub tab S ws us with
    | none => rw [q] at hp; exact hp.elim
    | some b =>
      rw [q] at hp
      obtain ⟨l, its, n1, dd, sl, rfl, atL, r1⟩ := tup_row hK I rx rv
      obtain ⟨m, its2, n2, dd2, sl2, rfl, atM, r2⟩ := tup_row hK I ry ru
      have out : ∀ (r : Bool) s', r = b → Now X G pins σ ρ H S s' → Value.bool (if false then !r else r) ≠ .notImplemented ∧ EP X pins σ Q (.bool (if false then !r else r)) s' := fun r s' e ⟨ρ', H', I', st, h'⟩ => ⟨nofun, .bl _, H', I', rfl, hp ρ' H' st h' _ (e ▸ rfl)⟩
      show wpAny (model X.prog X.w) X.A (richCompare .Eq (.ref l) (.ref m)) _ _ _
      refine PySem.wpAny_richCompare_same_room (op := .Eq) ⟨_, atL, rfl⟩ ⟨_, atM, rfl⟩ F.slot_tuple_eq (GQ.call_here F.slot_tuple_eq ⟨_, atL, rfl⟩ F.entry_tuple_eq (F.args_tuple_eq_2 _ _) ?_) hr.units0
      refine GQ.tuple_eqR (R := wants (fun v s' => v ≠ .notImplemented ∧ EP X pins σ Q v s') X.xe) l m _ _ _ _ _ _ _ _ (Left X G n sub tab pins σ ρ H S b (its.length == its2.length)) (fun s' => b = false ∧ Now X G pins σ ρ H S s')
        (fun y x rest s' => left_turn hK hr KT ET T) (fun s' z => ?_) (fun s' ⟨e, z⟩ => out false s' e.symm z) atL atM ⟨⟨ρ, H, I, .refl, hh⟩, ws, us, its, its2, rfl, r1, r2, q, rfl⟩
      have e := left_end z
      exact out _ s' e z.1
  · exact (seqT_no z hp).elim
theorem o_seqN {n sub} {tab : Nat → Option BM} (hK : G.K = X.K) (hr : Rm (k + 1) X.A) (KT : KitT G n sub) (ET : EqT G n sub) (T : ∀ c, DuOk X.prog X.w X.mg X.base G k "__eq__" c (tab c)) : OpR X (compareOp .NotEq) (upR G (seqT true n sub tab)) := by
  rintro pins s σ H x y va ua Q I rx ry ⟨ρ, v, u, S, rv, ru, hh, hp⟩
  by_cases z : ∃ ws us, v = .tup ws ∧ u = .tup us
  · obtain ⟨ws, us, rfl, rfl⟩ := z
    simp only [seqT] at hp
    cases q : itsE n sub tab S ws us with
    | none => rw [q] at hp; exact hp.elim
    | some b =>
      rw [q] at hp
      obtain ⟨l, its, n1, dd, sl, rfl, atL, r1⟩ := tup_row hK I rx rv
      obtain ⟨m, its2, n2, dd2, sl2, rfl, atM, r2⟩ := tup_row hK I ry ru
      have out : ∀ (r : Bool) s', r = b → Now X G pins σ ρ H S s' → Value.bool (if true then !r else r) ≠ .notImplemented ∧ EP X pins σ Q (.bool (if true then !r else r)) s' := fun r s' e ⟨ρ', H', I', st, h'⟩ => ⟨nofun, .bl _, H', I', rfl, hp ρ' H' st h' _ (e ▸ rfl)⟩
      show wpAny (model X.prog X.w) X.A (richCompare .NotEq (.ref l) (.ref m)) _ _ _
      refine PySem.wpAny_richCompare_same_room (op := .NotEq) ⟨_, atL, rfl⟩ ⟨_, atM, rfl⟩ F.slot_tuple_ne (GQ.call_here F.slot_tuple_ne ⟨_, atL, rfl⟩ F.entry_tuple_ne (F.args_tuple_ne_2 _ _) ?_) hr.units0
      refine GQ.tuple_neR (R := wants (fun v s' => v ≠ .notImplemented ∧ EP X pins σ Q v s') X.xe) l m _ _ _ _ _ _ _ _ (Left X G n sub tab pins σ ρ H S b (its.length == its2.length)) (fun s' => b = false ∧ Now X G pins σ ρ H S s')
        (fun y x rest s' => left_turn hK hr KT ET T) (fun s' z => ?_) (fun s' ⟨e, z⟩ => out false s' e.symm z) atL atM ⟨⟨ρ, H, I, .refl, hh⟩, ws, us, its, its2, rfl, r1, r2, q, rfl⟩
      have e := left_end z
      exact out _ s' e z.1
  · exact (seqT_no z hp).elim
end
end Mp
namespace GQ
open PySem PySem.SeqAt
open AutoSeq1 (wpAny_loadPart')
open MeetsSeq MeetsSeq2 MeetsSeq3 SeqRoads2
section
variable {prog : Program} {w : World} {A : Around} {R : Result → Shared → Prop}
/-- lists of other lengths: == says no, != says yes -/
theorem list_len (l b : Addr) (items items2 : Array Value) (n n2 : Nat) (dd dd2 : Option Addr) (sl sl2 : Array (Option Value)) (hsz : items.size ≠ items2.size) {s : Shared} (atL : s.heap.get? l = some { cls := .type "list", dict := dd, data := .seq items n, slots := sl })
    (atB : s.heap.get? b = some { cls := .type "list", dict := dd2, data := .seq items2 n2, slots := sl2 }) :
    (R (.ok (.ret (.bool false))) s → wpAny (model prog w) A.in1 (Builtin.«list.__eq__» ⟨[.ref l, .ref b], []⟩) (FinOf prog w A R) (fun e s' => R (.error e) s') s) ∧
    (R (.ok (.ret (.bool true))) s → wpAny (model prog w) A.in1 (Builtin.«list.__ne__» ⟨[.ref l, .ref b], []⟩) (FinOf prog w A R) (fun e s' => R (.error e) s') s) := by
  have same := AutoSeq1.sub_list_list
  have unlike : (items.size != items2.size) = true := by simpa using hsz
  obtain ⟨heap, gens, drawn, toks, os⟩ := s
  refine ⟨fun told => ?_, fun told => ?_⟩
  all_goals
    wp_walk using wpAny_loadPart' atL, wpAny_loadPart' atB
    exact told
end
end GQ
namespace Mp
open PySem PySem.Spec PyProof.Rows L2 PySem.SeqAt PySem.Calls
/-- lists of other lengths, whatever they hold -/
def lenN (neg : Bool) : W → W → M W := fun v u S => match v, u with
  | .loc l, .loc m => match S[l]?, S[m]? with
    | some (.lst ws), some (.lst us) => if ws.length ≠ us.length then .ok (.bl neg) S else .stuck
    | _, _ => .stuck
  | _, _ => .stuck
section
variable {X : Cx} {G : Gi} {k : Nat}
theorem o_lenE (hr : Rm k X.A) : OpR X (compareOp .Eq) (upR G (lenN false)) := by
  rintro pins s σ H x y va ua Q I rx ry ⟨ρ, v, u, S, rv, ru, hh, hp⟩
  cases v with
  | loc l =>
    cases u with
    | loc m =>
      simp only [lenN] at hp
      cases q1 : S[l]? with
      | none => rw [q1] at hp; exact hp.elim
      | some o1 =>
        cases o1 with
        | lst ws =>
          cases q2 : S[m]? with
          | none => rw [q1, q2] at hp; exact hp.elim
          | some o2 =>
            cases o2 with
            | lst us =>
              rw [q1, q2] at hp
              simp only at hp
              by_cases z : ws.length ≠ us.length
              · rw [if_pos z] at hp
                obtain ⟨a, xs, rfl, _, e1, r1⟩ := rel_lst hh rv q1
                obtain ⟨b, ys, rfl, _, e2, r2⟩ := rel_lst hh ru q2
                obtain rfl : va = Value.ref a := rx
                obtain rfl : ua = Value.ref b := ry
                obtain ⟨_, its, n1, v1, f1⟩ := (show ObjOk X.prog X.w H s.heap a (.lst xs) from I.hok a _ e1)
                obtain ⟨_, its2, n2, v2, f2⟩ := (show ObjOk X.prog X.w H s.heap b (.lst ys) from I.hok b _ e2)
                have hsz : its.toArray.size ≠ its2.toArray.size := by
                  simp only [List.size_toArray]
                  rw [← v1.length, ← v2.length, ← r1.len, ← r2.len]; exact z
                show wpAny (model X.prog X.w) X.A (richCompare .Eq (.ref a) (.ref b)) _ _ _
                refine PySem.wpAny_richCompare_same_room (op := .Eq) ⟨_, f1, rfl⟩ ⟨_, f2, rfl⟩ F.slot_list_eq (GQ.call_here F.slot_list_eq ⟨_, f1, rfl⟩ F.entry_list_eq (F.args_list_eq_2 _ _) ?_) hr.units0
                exact (GQ.list_len (R := wants (fun v s' => v ≠ .notImplemented ∧ EP X pins σ Q v s') X.xe) a b _ _ _ _ _ _ _ _ hsz f1 f2).1 ⟨nofun, .bl false, H, I, rfl, hp ρ H .refl hh _ rfl⟩
              · rw [if_neg z] at hp; exact hp.elim
            | _ => rw [q1, q2] at hp; exact hp.elim
        | _ => rw [q1] at hp; exact hp.elim
    | _ => exact hp.elim
  | _ => exact hp.elim
theorem o_lenN (hr : Rm k X.A) : OpR X (compareOp .NotEq) (upR G (lenN true)) := by
  rintro pins s σ H x y va ua Q I rx ry ⟨ρ, v, u, S, rv, ru, hh, hp⟩
  cases v with
  | loc l =>
    cases u with
    | loc m =>
      simp only [lenN] at hp
      cases q1 : S[l]? with
      | none => rw [q1] at hp; exact hp.elim
      | some o1 =>
        cases o1 with
        | lst ws =>
          cases q2 : S[m]? with
          | none => rw [q1, q2] at hp; exact hp.elim
          | some o2 =>
            cases o2 with
            | lst us =>
              rw [q1, q2] at hp
              simp only at hp
              by_cases z : ws.length ≠ us.length
              · rw [if_pos z] at hp
                obtain ⟨a, xs, rfl, _, e1, r1⟩ := rel_lst hh rv q1
                obtain ⟨b, ys, rfl, _, e2, r2⟩ := rel_lst hh ru q2
                obtain rfl : va = Value.ref a := rx
                obtain rfl : ua = Value.ref b := ry
                obtain ⟨_, its, n1, v1, f1⟩ := (show ObjOk X.prog X.w H s.heap a (.lst xs) from I.hok a _ e1)
                obtain ⟨_, its2, n2, v2, f2⟩ := (show ObjOk X.prog X.w H s.heap b (.lst ys) from I.hok b _ e2)
                have hsz : its.toArray.size ≠ its2.toArray.size := by
                  simp only [List.size_toArray]
                  rw [← v1.length, ← v2.length, ← r1.len, ← r2.len]; exact z
                show wpAny (model X.prog X.w) X.A (richCompare .NotEq (.ref a) (.ref b)) _ _ _
                refine PySem.wpAny_richCompare_same_room (op := .NotEq) ⟨_, f1, rfl⟩ ⟨_, f2, rfl⟩ F.slot_list_ne (GQ.call_here F.slot_list_ne ⟨_, f1, rfl⟩ F.entry_list_ne (F.args_list_ne_2 _ _) ?_) hr.units0
                exact (GQ.list_len (R := wants (fun v s' => v ≠ .notImplemented ∧ EP X pins σ Q v s') X.xe) a b _ _ _ _ _ _ _ _ hsz f1 f2).2 ⟨nofun, .bl true, H, I, rfl, hp ρ H .refl hh _ rfl⟩
              · rw [if_neg z] at hp; exact hp.elim
            | _ => rw [q1, q2] at hp; exact hp.elim
        | _ => rw [q1] at hp; exact hp.elim
    | _ => exact hp.elim
  | _ => exact hp.elim
end
end Mp
set_option Elab.async false
set_option linter.all false
set_option maxRecDepth 100000
set_option maxHeartbeats 4000000
/-! mirror functions, run: one lemma a construct -/
namespace Mp
open PySem PySem.Spec PyProof.Rows L2
section
variable {ls ls1 ls2 : LSt} {S S1 S2 S3 : Sto} {v u w x : W} {f g h : EM} {A B C : SM} {t t' : TM} {b : Bool} {r : SRes} {q : Res W} {c : Nat} {fs : List W} {F F' : AM} {ws us : List W}
theorem toS_ok {α : Type} {z : Res α} {a : α} {k : α → Sto → SRes} (e : z = .ok a S1) : toS z ls k = k a S1 := by rw [e]; rfl
theorem toS_exc {α : Type} {z : Res α} {k : α → Sto → SRes} (e : z = .exc c fs S1) : toS z ls k = .exc c fs ls S1 := by rw [e]; rfl
theorem seq_nx (e : A ls S = .nx ls1 S1) (e2 : B ls1 S1 = r) : sSeq A B ls S = r := by simp only [sSeq, e, e2]
theorem seq_rt (e : A ls S = .rt v S1) : sSeq A B ls S = .rt v S1 := by simp only [sSeq, e]
theorem seq_exc (e : A ls S = .exc c fs ls1 S1) : sSeq A B ls S = .exc c fs ls1 S1 := by simp only [sSeq, e]
theorem ret_ok (e : f ls S = .ok v S1) : sRet f ls S = .rt v S1 := by simp only [sRet, e, toS]
theorem ret_exc (e : f ls S = .exc c fs S1) : sRet f ls S = .exc c fs ls S1 := by simp only [sRet, e, toS]
theorem asg_exc {i : Nat} (e : f ls S = .exc c fs S1) : sAsg f (gNm i) ls S = .exc c fs ls S1 := by simp only [sAsg, e, toS]
theorem drp_ok (e : f ls S = .ok v S1) : sDrp f ls S = .nx ls S1 := by simp only [sDrp, e, toS]
theorem drp_exc (e : f ls S = .exc c fs S1) : sDrp f ls S = .exc c fs ls S1 := by simp only [sDrp, e, toS]
theorem if_t (e : t ls S = .ok true S1) (e2 : A ls S1 = r) : sIf t A B ls S = r := by simp only [sIf, e, toS, if_true, e2]
theorem if_f (e : t ls S = .ok false S1) (e2 : B ls S1 = r) : sIf t A B ls S = r := by simp only [sIf, e, toS, Bool.false_eq_true, if_false, e2]
theorem if_n (e : t ls S = .ok false S1) : sIf t A sNop ls S = .nx ls S1 := if_f e rfl
theorem vif_t (e : t ls S = .ok true S1) (e2 : f ls S1 = q) : vIf t f g ls S = q := by simp only [vIf, e, Res.bind, if_true, e2]
theorem vif_f (e : t ls S = .ok false S1) (e2 : g ls S1 = q) : vIf t f g ls S = q := by simp only [vIf, e, Res.bind, Bool.false_eq_true, if_false, e2]
theorem not_ok (e : t ls S = .ok b S1) : mNot t ls S = .ok (!b) S1 := by simp only [mNot, e, Res.bind]
theorem or_t (e : t ls S = .ok true S1) : mOr t t' ls S = .ok true S1 := by simp only [mOr, e, Res.bind, if_true]
theorem or_f {z : Res Bool} (e : t ls S = .ok false S1) (e2 : t' ls S1 = z) : mOr t t' ls S = z := by simp only [mOr, e, Res.bind, Bool.false_eq_true, if_false, e2]
theorem and_t {z : Res Bool} (e : t ls S = .ok true S1) (e2 : t' ls S1 = z) : mAnd t t' ls S = z := by simp only [mAnd, e, Res.bind, if_true, e2]
theorem and_f (e : t ls S = .ok false S1) : mAnd t t' ls S = .ok false S1 := by simp only [mAnd, e, Res.bind, Bool.false_eq_true, if_false]
theorem tst_ok (e : f ls S = .ok (.bl b) S1) : tst f ls S = .ok b S1 := by simp only [tst, e, Res.bind, truth, NoX]
theorem vand_t (e : f ls S = .ok (.bl true) S1) (e2 : g ls S1 = q) : vAnd f g ls S = q := by simp only [vAnd, e, Res.bind, truth, NoX, if_true, e2]
theorem vand_f (e : f ls S = .ok (.bl false) S1) : vAnd f g ls S = .ok (.bl false) S1 := by simp only [vAnd, e, Res.bind, truth, NoX, Bool.false_eq_true, if_false]
theorem a_n : aNil ls S = .ok [] S := rfl
theorem a_c (e : f ls S = .ok v S1) (e2 : F ls S1 = .ok ws S2) : aCons f F ls S = .ok (v :: ws) S2 := by simp only [aCons, e, e2, Res.bind]
theorem a_1 (e : f ls S = .ok v S1) : aCons f aNil ls S = .ok [v] S1 := a_c e rfl
theorem a_exc (e : f ls S = .exc c fs S1) : aCons f F ls S = .exc c fs S1 := by simp only [aCons, e, Res.bind]
theorem a_exc2 (e : f ls S = .ok v S1) (e2 : F ls S1 = .exc c fs S2) : aCons f F ls S = .exc c fs S2 := by simp only [aCons, e, e2, Res.bind]
theorem fn_ok {n : Nat} {ds : List W} {G : BM} (e : F ls S = .ok ws S1) (hn : ws.length + ds.length = n) (e2 : G (ws ++ ds) S1 = q) : eFn (defM n ds G) F ls S = q := by
  simp only [eFn, e, Res.bind, defM, hn, if_true, e2]
theorem fn_exc {G : BM} (e : F ls S = .exc c fs S1) : eFn G F ls S = .exc c fs S1 := by simp only [eFn, e, Res.bind]
theorem call_ok {o : BM} (e : F ls S = .ok ws S1) (e2 : o ws S1 = .ok w S2) : eCall o F ls S = .ok w S2 := by simp only [eCall, e, e2, Res.bind, NoX]
theorem me_ok {tab : Nat → Option BM} {l k : Nat} {os : List W} {G : BM} (e : f ls S = .ok (.loc l) S1) (e2 : F ls S1 = .ok ws S2) (ho : S1[l]? = some (.obj k os)) (ht : tab k = some G) (e3 : G (.loc l :: ws) S2 = q) : eMe tab f F ls S = q := by
  simp only [eMe, e, e2, Res.bind, meV, objV, ho, ht, e3]
theorem tup_ok (e : F ls S = .ok ws S1) (hb : ws.length ≤ 1000) : eTup F ls S = .ok (.tup ws) S1 := by
  have b : ws.length ≤ big := Nat.le_trans hb (by unfold big; omega)
  simp only [eTup, e, Res.bind, if_pos b]
theorem lst_ok (e : F ls S = .ok ws S1) (hb : ws.length ≤ 1000) : eLst F ls S = .ok (.loc S1.length) (S1 ++ [.lst ws]) := by
  have b : ws.length ≤ big := Nat.le_trans hb (by unfold big; omega)
  simp only [eLst, e, Res.bind, newL, if_pos b]
theorem raise_ok {n : Nat} (e : F ls S = .ok ws S1) (hn : ws.length = n) : sRaise c n F ls S = .exc c ws.reverse ls S1 := by simp only [sRaise, e, toS, hn, if_true]
theorem els_1 {o1 o2 : W → W → M W} (e : o1 v u S = .ok w S1) : els o1 o2 v u S = .ok w S1 := by simp only [els, e]
theorem els_2 {o1 o2 : W → W → M W} (e : o1 v u S = .stuck) (e2 : o2 v u S = q) : els o1 o2 v u S = q := by simp only [els, e, e2]
theorem bs_ok {m : W → BM} {x' : Str} (e : f ls S = .ok (.str x') S1) (e2 : F ls S1 = .ok ws S2) (e3 : m (.str x') ws S2 = .ok w S3) : eBM isS m f F ls S = .ok w S3 := by
  simp only [eBM, e, e2, e3, Res.bind, isS, NoX, if_true]
theorem bl_ok {m : W → BM} {l : Nat} {zs : List W} (e : f ls S = .ok (.loc l) S1) (hl : S1[l]? = some (.lst zs)) (e2 : F ls S1 = .ok ws S2) (e3 : m (.loc l) ws S2 = .ok w S3) : eBM isL m f F ls S = .ok w S3 := by
  have hi : isL (.loc l) S1 = true := by simp [isL, lstOf, hl]
  simp only [eBM, e, e2, e3, Res.bind, hi, NoX, if_true]
end
/-- datE at data -/
theorem datE_ok {neg : Bool} {v u : W} {S : Sto} {d e : PyData} (h1 : dat S 40 v = some d) (h2 : dat S 40 u = some e) : datE neg v u S = .ok (.bl (if neg then !PyData.eqv d e else PyData.eqv d e)) S := by
  simp only [datE, h1, h2]
theorem bigN : (1000000 : Nat) ≤ big := by unfold big; omega
/-- an item of a list -/
theorem ix_l {l i : Nat} {ws : List W} {w : W} {S : Sto} (h : S[l]? = some (.lst ws)) (hi : ws[i]? = some w) : ixW (.loc l) (.int (i : Int)) S = .ok w S := by
  have hl := (List.getElem?_eq_some_iff.mp hi).1
  have e3 : ixN ws.length (i : Int) = some i := by
    unfold ixN
    have h0 : ¬ (i : Int) < 0 := by omega
    simp [h0]
    omega
  simp only [ixW, h, atW, e3, Option.bind_some, hi]
theorem ix_t {i : Nat} {ws : List W} {w : W} {S : Sto} (hi : ws[i]? = some w) : ixW (.tup ws) (.int (i : Int)) S = .ok w S := by
  have hl := (List.getElem?_eq_some_iff.mp hi).1
  have e3 : ixN ws.length (i : Int) = some i := by
    unfold ixN
    have h0 : ¬ (i : Int) < 0 := by omega
    simp [h0]
    omega
  simp only [ixW, atW, e3, Option.bind_some, hi]
theorem rg1_n {n : Nat} (h : n ≤ 1000000) {S : Sto} : rg1 [.int (n : Int)] S = .ok (.rng 0 n) S := by
  have h2 : (-4611686018427387904 : Int) ≤ (n : Int) ∧ (n : Int) < 4611686018427387904 := ⟨by omega, by omega⟩
  have e : rg1 [.int (n : Int)] S = if -4611686018427387904 ≤ (n : Int) ∧ (n : Int) < 4611686018427387904 then .ok (.rng 0 (n : Int).toNat) S else .stuck := rfl
  rw [e, if_pos h2, Int.toNat_natCast]
theorem iRg_ok {f : List W → M ItW} {F : AM} {ls : LSt} {S S1 S2 : Sto} {vs : List W} {it : ItW} (e : F ls S = .ok vs S1) (h : f vs S1 = .ok it S2) : iRg f F ls S = .ok it S2 := by
  simp only [iRg, e, Res.bind, h, NoX]
theorem irg1_ok {n : Nat} (h : n ≤ 1000000) {F : AM} {ls : LSt} {S S1 : Sto} (e : F ls S = .ok [.int (n : Int)] S1) : iRg rg1 F ls S = .ok (.rng 0 n) S1 := iRg_ok e (rg1_n h)
/-- a comparison as a test -/
theorem tb_ok {op : W → W → M W} {fa fb : EM} {ls : LSt} {S S1 S2 S3 : Sto} {v u : W} {b : Bool} (h1 : fa ls S = .ok v S1) (h2 : fb ls S1 = .ok u S2) (h3 : op v u S2 = .ok (.bl b) S3) : tB1 (bin op fa fb) ls S = .ok b S3 := by
  simp only [tB1, bin_ok h1 h2 h3, Res.bind, NoX]
/-! ### comprehensions over a list or a tuple, each item taken -/
section
variable {g : GW} {e : EM} {l0 : Nat} {ls : LSt} {it : ItW}
theorem lcGo_ys {ws ys : List W} (P : Sto → Prop) (hit : ∀ i S, P S → itNext it i S = some ws[i]?) (hP : ∀ S acc, P S → P (S.set l0 (.lst acc))) (hl : ws.length = ys.length)
    (he : ∀ (i : Nat) (w y : W), ws[i]? = some w → ys[i]? = some y → ∃ ls2, g w ls = some ls2 ∧ ∀ S, P S → e ls2 S = .ok y S) :
    ∀ (m i : Nat) (S : Sto) (acc : List W), i + m = ws.length → P S → S[l0]? = some (.lst acc) → acc.length + m ≤ big → lcGo it g tTrue e l0 ls (m + 1) i S = .ok () (S.set l0 (.lst (acc ++ ys.drop i)))
  | 0, i, S, acc, hi, hp, ha, _ => by
    have q : ws[i]? = none := by simp; omega
    have q2 : ys.drop i = [] := List.drop_eq_nil_of_le (by omega)
    unfold lcGo
    simp only [hit i S hp, q, q2, List.append_nil, set_same ha]
  | m + 1, i, S, acc, hi, hp, ha, hb => by
    have h1 : i < ws.length := by omega
    have h2 : i < ys.length := by omega
    have q : ws[i]? = some ws[i] := List.getElem?_eq_getElem h1
    have q2 : ys[i]? = some ys[i] := List.getElem?_eq_getElem h2
    obtain ⟨ls2, g1, g2⟩ := he i _ _ q q2
    have hlt := (List.getElem?_eq_some_iff.mp ha).1
    have hb2 : acc.length < big := by omega
    have ih := lcGo_ys P hit hP hl he m (i + 1) (S.set l0 (.lst (acc ++ [ys[i]]))) (acc ++ [ys[i]]) (by omega) (hP _ _ hp) (List.getElem?_set_self hlt) (by simp; omega)
    unfold lcGo
    simp only [hit i S hp, q, g1, tTrue, g2 S hp, NoX, Res.bind, if_true, lstOf, ha, if_pos hb2]
    rw [ih, List.set_set, List.append_assoc, List.drop_eq_getElem_cons h2]; rfl
end
/-- a list or a tuple -/
def Sq (v : W) (ws : List W) (S : Sto) : Prop := v = .tup ws ∨ ∃ l, v = .loc l ∧ S[l]? = some (.lst ws)
theorem eLc_sq {fe : EM} {g : GW} {e : EM} {vs : List Nat} {ls : LSt} {S S1 : Sto} {v : W} {ws ys : List W} (hf : fe ls S = .ok v S1) (h : Sq v ws S1) (hl : ws.length = ys.length) (hb : ws.length ≤ 1000000)
    (he : ∀ (i : Nat) (w y : W), ws[i]? = some w → ys[i]? = some y → ∃ ls2, g w (wipeL ls vs) = some ls2 ∧ ∀ S, e ls2 S = .ok y S) : eLc (iAny fe) g tTrue e vs ls S = .ok (.loc S1.length) (S1 ++ [.lst ys]) := by
  have hl0 : (S1 ++ [Ob.lst []])[S1.length]? = some (Ob.lst []) := by simp
  have e3 : (S1 ++ [Ob.lst []]).set S1.length (Ob.lst ([] ++ ys.drop 0)) = S1 ++ [.lst ys] := by
    rw [List.set_append_right _ _ (Nat.le_refl _)]
    simp
  have bN := bigN
  rcases h with rfl | ⟨l, rfl, hl2⟩
  · have i0 : iAny fe ls S = .ok (.tup ws) S1 := by simp only [iAny, hf, Res.bind, walkW, NoX]
    have k := lcGo_ys (it := .tup ws) (g := g) (e := e) (l0 := S1.length) (ls := wipeL ls vs) (fun _ => True) (fun _ _ _ => rfl) (fun _ _ _ => trivial) hl (fun i w y h1 h2 => let ⟨a, b, c⟩ := he i w y h1 h2; ⟨a, b, fun S _ => c S⟩) ws.length 0 (S1 ++ [.lst []]) [] (Nat.zero_add _) trivial hl0 (by simp only [List.length_nil]; omega)
    rw [e3] at k
    simp only [eLc, i0, Res.bind, itFuel, k]
  · have hlt := (List.getElem?_eq_some_iff.mp hl2).1
    have i0 : iAny fe ls S = .ok (.lst l) S1 := by simp only [iAny, hf, Res.bind, walkW, hl2, NoX]
    have k := lcGo_ys (it := .lst l) (g := g) (e := e) (l0 := S1.length) (ls := wipeL ls vs) (fun S => S[l]? = some (.lst ws)) (fun i S h => by simp only [itNext, h]) (fun S acc h => by rw [List.getElem?_set_ne (by omega)]; exact h) hl (fun i w y h1 h2 => let ⟨a, b, c⟩ := he i w y h1 h2; ⟨a, b, fun S _ => c S⟩) ws.length 0 (S1 ++ [.lst []]) [] (Nat.zero_add _) (by rw [List.getElem?_append_left hlt]; exact hl2) hl0 (by simp only [List.length_nil]; omega)
    rw [e3] at k
    simp only [eLc, i0, Res.bind, itFuel, hl2, k]
theorem asBls_map : ∀ bs : List Bool, asBls (bs.map W.bl) = some bs
  | [] => rfl
  | b :: bs => by simp only [List.map_cons, asBls, asBls_map bs, Option.map_some]
theorem asStrs_map : ∀ zs : List Str, asStrs (zs.map W.str) = some zs
  | [] => rfl
  | z :: zs => by simp only [List.map_cons, asStrs, asStrs_map zs, Option.map_some]
end Mp
set_option Elab.async false
set_option linter.all false
set_option maxRecDepth 100000
set_option maxHeartbeats 4000000
/-! defs with a star parameter; stars in calls and displays; constants of classes; len(set(..)); two generators -/
namespace Mp
open PySem PySem.Spec PyProof.Rows L2
open StX (vals_split run_bnd env0_laid un_laid cxUp pa_star tStar)
@[simp] def defS (n : Nat) (g : BM) : BM := fun ws S => if n ≤ ws.length ∧ ws.length ≤ n + 1000 then g (ws.take n ++ [.tup (ws.drop n)]) S else .stuck
section
variable {P : Program} {w : World} {K : PySem.W.Frag} {mg : Str → Option Value} {base : Heap} {k : Nat} {f : Addr} {fd : FuncData} {ps : List Str} {G : Gi}
theorem fn_starG {x qual pv : Str} {params : Arguments} {body : List Stmt} {scope : Scope} {kws : List (Str × V)} {N : List Str} {m n : Nat} {b : SM} (F : FunD K x qual params body scope [] kws f fd) (S : FnScope N (ps ++ [pv]) scope) (hn : ps.length = n) (hN : N.length = n + 1 + m)
    (bind : ∀ (kV doc pm cd ct : Value) (an : Option Addr) (us rest : List Value), us.length = ps.length → bindArgs (PySem.W.fnOf x qual params body scope .none kV doc pm an cd ct) ⟨us ++ rest, []⟩ = (newTuple rest >>= fun t => pure (ps.zip us ++ [(pv, t)])))
    (hb : ∀ (cdv : Value) (A : Around) (outer : List Env) (s : Shared) (H : Hp) (E : XK), Rm k (A.deeper (envOfC qual scope s.heap.objs.size f cdv)) →
      PSs (cxOf (CX P w) P w K mg base N qual scope f cdv A outer s H E) body (upS G (WxE E) b)) :
    FnG P w K mg base (CX P w) (k + 1) f (spR G (defS n (fnM m b))) := by
  obtain ⟨oc, od, dV, kV, doc, pm, an, cdv, ct, osl, rfl, lk, hcd, hd, _⟩ := F.ex
  obtain rfl : dV = .none := hd.elim (fun h => h.2) fun h => absurd rfl h.1
  subst hn
  rintro A outer s H us vs Q E hr e0 rv ⟨ρ, ws, S', r, hh, hp⟩
  have hp : Post G ρ H (if ps.length ≤ ws.length ∧ ws.length ≤ ps.length + 1000 then fnM m b (ws.take ps.length ++ [.tup (ws.drop ps.length)]) S' else .stuck) (QW G Q) E := hp
  by_cases hc : ps.length ≤ ws.length ∧ ws.length ≤ ps.length + 1000
  · rw [if_pos hc] at hp
    have lv : vs.length = ws.length := r.len.symm
    have lu : us.length = vs.length := rv.length.symm
    obtain ⟨va, vr, ev, la⟩ : ∃ va vr, vs = va ++ vr ∧ va.length = ps.length := ⟨vs.take ps.length, vs.drop ps.length, (List.take_append_drop _ _).symm, by rw [List.length_take]; omega⟩
    have vt : vs.take ps.length = va := by rw [ev, ← la, List.take_left]
    have vd : vs.drop ps.length = vr := by rw [ev, ← la, List.drop_left]
    rw [ev] at rv
    obtain ⟨ua, ur, eu, ra, rr⟩ := vals_split rv
    subst eu
    have lua : ua.length = ps.length := by rw [← ra.length]; exact la
    have lr : ur.length ≤ sizeLine := by
      have h1 := rr.length
      have h2 : va.length + vr.length = ws.length := by rw [← lv, ev, List.length_append]
      have h3 : ur.length ≤ 1000 := by omega
      have h4 : (1000 : Nat) ≤ big := by unfold big; omega
      exact le_line (Nat.le_trans h3 h4)
    have fresh : H s.heap.objs.size = Option.none := e0.hok.fresh (Nat.le_refl _)
    refine run_bnd lk hcd S hr.rm e0 (G := fun xs H2 => ∃ p, H p = Option.none ∧ xs = va ++ [V.ref p] ∧ H2 = upd H p (.tup vr)) ?_ ?_
    · intro A' Ex Q' give
      have laid : ObjOk P w (upd H s.heap.objs.size (.tup vr)) (s.heap.push ({ cls := .type "tuple", data := .seq ur.toArray } : Obj)) s.heap.objs.size (.tup vr) :=
        ⟨by rw [rr.length]; exact lr, ur, rr, ⟨_, Heap.get?_push_size _ rfl, rfl, _, rfl⟩⟩
      have onto := un_laid (fs := frs outer) (s := s) (o := ({ cls := .type "tuple", data := .seq ur.toArray } : Obj)) (u := .tup vr) fresh
      rw [bind _ _ _ _ _ _ ua ur lua]
      refine wpAny_bind (wpAny_newTuple (wpAny_pure ?_) lr)
      have zz : ps.zip ua ++ [(pv, Value.ref s.heap.objs.size)] = (ps ++ [pv]).zip (ua ++ [Value.ref s.heap.objs.size]) := by
        rw [List.zip_append lua.symm]; rfl
      rw [zz]
      refine give { s with heap := s.heap.push ({ cls := .type "tuple", data := .seq ur.toArray } : Obj) } (upd H s.heap.objs.size (.tup vr)) (va ++ [V.ref s.heap.objs.size]) (ua ++ [Value.ref s.heap.objs.size]) (env0_laid e0 laid) onto rfl ?_ ?_ ?_ ⟨_, fresh, rfl, rfl⟩
      · exact fun e s' => cxUp outer s H _ _ E e s' onto (fun b o q => Heap.get?_push_of_some _ q) rfl
      · exact ra.append (.cons rfl .nil)
      · simp [la]
    · rintro s2 H2 xs ⟨p, hp0, ex, eH⟩ hr'
      subst ex eH
      have st : Step ρ H ρ (upd H p (.tup vr)) := Step.lay hp0
      have rd : RelW G ρ (upd H p (.tup vr)) (.tup (ws.drop ps.length)) (.ref p) := tup_new hh hp0 (by rw [← vd]; exact r.drop _)
      have rt : RelWs G ρ (upd H p (.tup vr)) (ws.take ps.length) va := by rw [← vt]; exact (r.take _).step st
      have rs : RelWs G ρ (upd H p (.tup vr)) (ws.take ps.length ++ [.tup (ws.drop ps.length)]) (va ++ [V.ref p]) := rt.append ⟨_, _, rfl, rd, rfl⟩
      exact ⟨_, hb cdv A outer s2 _ E ⟨hr', hr.gd⟩, ρ, _, S', relS_start rs m (by rw [hN, List.length_append, la]; rfl), hh.lay hp0, PostS.run (hp.step st)⟩
  · rw [if_neg hc] at hp
    exact hp.elim
end
/-! ### a star among the arguments -/
@[simp] def aStar (f : EM) (g : AM) : AM := fun ls S => (f ls S).bind fun v S1 => match seqW v S1 with
  | some ws => (g ls S1).bind fun us S2 => .ok (ws ++ us) S2
  | none => .stuck
section
variable {X : Cx} {G : Gi} {Wx : WX} {e o : Expr} {es : List Expr} {fe : EM} {fs : AM} {pos p : Pos} {k : Nat} {x : Str} {C f : Addr} {g : BM}
theorem a_star (hK : G.K = X.K) (he : PE X e (upE G Wx fe)) (ha : PA X es (upA G Wx fs)) (hs : starEach (.Starred e p :: es) X.env = (true, eval e X.env) :: starEach es X.env := by rfl) : PA X (.Starred e p :: es) (upA G Wx (aStar fe fs)) := by
  have z := pa_star he ha hs
  refine PA.imp ?_ z
  rintro σ H Q ⟨ρ, ls, S, hs, hh, hp⟩
  refine ⟨ρ, ls, S, hs, hh, (Post.bind hp).mono fun v S1 ρ1 H1 s1 h1 q y ry => ?_⟩
  cases hv : seqW v S1 with
  | none => rw [hv] at q; exact q.elim
  | some ws =>
    rw [hv] at q
    have q : Post G ρ1 H1 ((fs ls S1).bind fun us S2 => Res.ok (ws ++ us) S2) _ _ := q
    obtain ⟨a, xs, rfl, rws, hx⟩ := seqW_rel hK h1 ry hv
    exact ⟨a, xs, rfl, hx.symm, ρ1, ls, S1, hs.step s1, h1, (Post.bind q).mono fun us S2 ρ2 H2 s2 h2 q2 ys rys => q2 ρ2 H2 .refl h2 _ ((rws.step s2).append rys)⟩
end
/-! ### C(a, .., *b) -/
section
variable {X : Cx} {G : Gi} {Wx : WX} {e : Expr} {es : List Expr} {fs : AM} {pos p : Pos} {k : Nat} {x : Str} {g : BM}
theorem e_newS {cn n : Nat} {f : Addr} {g : BM} {fin : Nat → Nat → Nat → M W} (hfin : ∀ {ρ H S l a Q E}, RelH G ρ H S → ρ l = some a → Post G ρ H (fin cn n l S) (QW G Q) E → Q (.ref a) H) (tk : Takes X Wx) (hK : G.K = X.K) (M : Mk G.K (G.cls cn) f) (F : FnG X.prog X.w X.K X.mg X.base (CX X.prog X.w) k f (spR G g)) (hr : Rm (k + 1) X.A) (hg : Gl X x) (hm : X.mg x = some (.ref (G.cls cn)))
    (ha : PA X (e :: es) (upA G Wx fs)) (hdb : (x == ("__debug__" : Str)) = false := by decide)
    (he : starEach (e :: es) X.env = (false, eval e X.env) :: starEach es X.env := by rfl) (hst : (backTo pos (starEach es X.env)).any (·.1) = true := by rfl) : PE X (.Call (.Name x p) (e :: es) [] pos) (upE G Wx (eNew fin cn n g fs)) := by
  refine ⟨fun pins s σ H Q I ⟨ρ, ls, S, hs, hh, hp⟩ => ?_⟩
  have M' : Mk X.K (G.cls cn) f := hK ▸ M
  refine wpAny_Call_Name_kw (ld_glob I hg hm ?_ hdb)
  refine PySem.W.callWith_S2 (h₀ := X.base) I.ok.mod.kin M'.kp (thn (ha.run pos pins s σ H (fun vs H1 => ∃ ρ1 ws S1, RelWs G ρ1 H1 ws vs ∧ RelH G ρ1 H1 S1 ∧ Post G ρ1 H1 ((g (.loc S1.length :: ws) (S1 ++ [.obj cn []])).bind fun v S2 => match v with | .non => fin cn n S1.length S2 | _ => .stuck) (QW G Q) fun c d H' => Wx c d σ H') I ⟨ρ, ls, S, hs, hh, (Post.bind hp).mono fun ws S1 ρ1 H1 s1 h1 q xs rs => ⟨ρ1, ws, S1, rs, h1, q⟩⟩) fun us s1 ⟨vs, H1, I1, r, ρ1, ws, S1, rs, h1, q⟩ => ⟨I1.kIn, ?_⟩) he hst
  refine run_mk (Q := Q) tk M' F hr I1 r fun x dx hx hd ne => ?_
  obtain ⟨st, hm2⟩ := made_H (c := cn) h1 hx hd ne
  refine ⟨ext ρ1 S1.length x, .loc S1.length :: ws, S1 ++ [.obj cn []], ⟨_, _, rfl, ⟨x, ext_same, rfl⟩, rs.step st⟩, hm2, (Post.bind (Post.step st q)).mono fun v S2 ρ2 H2 s2 h2 q2 y ry => ?_⟩
  cases v with
  | non => exact ⟨ry, hfin h2 (s2.sub _ _ ext_same) q2⟩
  | _ => exact q2.elim
end
/-! ### constants of classes -/
/-- class number c's f is v, read off an instance -/
def conB' (K : PySem.W.Frag) (C : Addr) (f : Str) (v : V) : Bool := match PySem.W.findIn K (.ref C) f with
  | some (some u) => He.relB v u && (He.eqO (PySem.W.specialIn K u "__get__") (some none) && !PySem.W.copiedNames.contains f)
  | _ => false
theorem conB'_ok {K : PySem.W.Frag} {C : Addr} {f : Str} {v : V} (h : conB' K C f v = true) : ∃ u, Con K C f v u := by
  unfold conB' at h
  split at h
  · rename_i u e
    obtain ⟨q1, r1⟩ := He.ba h
    obtain ⟨q2, q3⟩ := He.ba r1
    exact ⟨u, e, He.relB_ok q1, He.eqO_ok q2, by simpa using q3⟩
  · cases h
def cvB (K : PySem.W.Frag) (C : Addr) (mc : Value) (f : Str) (v : V) : Bool := match PySem.W.findCls K (.ref C) mc f with
  | some (.val u) => He.relB v u
  | _ => false
theorem cvB_ok {K : PySem.W.Frag} {C : Addr} {mc : Value} {f : Str} {v : V} (h : cvB K C mc f v = true) : ∃ u, ClX.CVal K C mc f v u := by
  unfold cvB at h
  split at h
  · rename_i u e
    exact ⟨u, e, He.relB_ok h⟩
  · cases h
section
variable {X : Cx} {G : Gi} {Wx : WX} {e : Expr} {f : Str} {fa : EM} {pos : Pos}
@[simp] def coV (tab : Nat → Option W) (v : W) : M W := fun S => match v with
  | .ins c _ => match tab c with
    | some w => .ok w S
    | none => .stuck
  | _ => .stuck
@[simp] def eCo (tab : Nat → Option W) (fa : EM) : EM := fun ls S => (fa ls S).bind fun v S1 => coV tab v S1
theorem zip_lookup_none {f : Str} : ∀ {ks : List Str} {xs : List V}, f ∉ ks → (ks.zip xs).lookup f = none
  | [], xs, _ => by simp
  | k :: ks, [], _ => by simp
  | k :: ks, x :: xs, h => by
    have h1 : (f == k) = false := by
      rw [beq_eq_false_iff_ne]
      exact fun z => h (z ▸ List.mem_cons_self)
    rw [List.zip_cons_cons, List.lookup_cons, h1]
    exact zip_lookup_none fun z => h (List.mem_cons_of_mem _ z)
/-- e.f, f a constant of e's class -/
theorem e_co {tab : Nat → Option W} (hK : G.K = X.K) (T : ∀ c w, tab c = some w → Cls G.K (G.cls c) ∧ f ∉ G.flds c ∧ ∃ v u, Con G.K (G.cls c) f v u ∧ ∀ ρ H, RelW G ρ H w v) (he : PE X e (upE G Wx fa)) (hb : attributeBase e f X.env (eval e X.env) = eval e X.env := by rfl) : PE X (.Attribute e f pos) (upE G Wx (eCo tab fa)) := by
  refine PE.imp ?_ (pe_con (f := f) he hb)
  rintro σ H Q ⟨ρ, ls, S, hs, hh, hp⟩
  refine ⟨ρ, ls, S, hs, hh, (Post.bind hp).mono fun v S1 ρ1 H1 s1 h1 q x rx => ?_⟩
  cases v with
  | ins c ws =>
    obtain ⟨a, xs, rfl, ⟨_, hl, dx, ha⟩, _⟩ := rx
    have q : Post G ρ1 H1 (match tab c with | some w => Res.ok w S1 | none => .stuck) _ _ := q
    cases ht : tab c with
    | none => rw [ht] at q; exact q.elim
    | some w =>
      rw [ht] at q
      obtain ⟨hc, hn, v, u, hv, hr⟩ := T c w ht
      rw [← hK]
      exact ⟨a, _, dx, _, v, u, rfl, ha, hc, hv, zip_lookup_none hn, q ρ1 H1 .refl h1 v (hr ρ1 H1)⟩
  | _ => exact q.elim
@[simp] def eCv (g : Nat) (w : W) (fa : EM) : EM := fun ls S => (fa ls S).bind fun v S1 => match v with
  | .glo h => if h = g then .ok w S1 else .stuck
  | _ => .stuck
/-- C.f, f a constant of the class -/
theorem e_cv {g : Nat} {w : W} {v : V} {mc : Value} (hK : G.K = X.K) (R : ClX.CRead G.K (G.glo g) mc) (T : ∃ u, ClX.CVal G.K (G.glo g) mc f v u) (hv : ∀ ρ H, RelW G ρ H w v) (he : PE X e (upE G Wx fa)) (hb : attributeBase e f X.env (eval e X.env) = eval e X.env := by rfl) : PE X (.Attribute e f pos) (upE G Wx (eCv g w fa)) := by
  obtain ⟨u, T⟩ := T
  refine PE.imp ?_ (ClX.pe_cval (f := f) he hb)
  rintro σ H Q ⟨ρ, ls, S, hs, hh, hp⟩
  refine ⟨ρ, ls, S, hs, hh, (Post.bind hp).mono fun z S1 ρ1 H1 s1 h1 q x rx => ?_⟩
  cases z with
  | glo h =>
    obtain rfl : x = .ref (G.glo h) := rx
    have q : Post G ρ1 H1 (if h = g then Res.ok w S1 else .stuck) _ _ := q
    by_cases e : h = g
    · subst e
      have q : Post G ρ1 H1 (if h = h then Res.ok w S1 else .stuck) _ _ := q
      rw [if_pos rfl] at q
      rw [← hK]
      exact ⟨_, mc, v, u, rfl, R, T, q ρ1 H1 .refl h1 v (hv ρ1 H1)⟩
    · rw [if_neg e] at q; exact q.elim
  | _ => exact q.elim
end
/-! ### len(set(..)) of ints -/
@[simp] def eLs (fa : EM) : EM := fun ls S => (fa ls S).bind fun v S1 => match v with
  | .loc l => match lstOf l S1 with
    | some ws => match asInts ws with
      | some ns => if ns.Nodup ∧ ns.length ≤ 4000 then .ok (W.int (ns.length : Nat)) S1 else .stuck
      | none => .stuck
    | none => .stuck
  | _ => .stuck
section
variable {X : Cx} {G : Gi} {Wx : WX} {a : Expr} {fa : EM} {p p2 q pos : Pos}
theorem e_lenSet (hK : G.K = X.K) (hg : Gl X "len") (hm : X.mg "len" = none) (hg2 : Gl X "set") (hm2 : X.mg "set" = none) (ha : PE X a (upE G Wx fa)) (hc : X.calm = true := by rfl)
    (na : starEach [a] X.env = (false, eval a X.env) :: starEach [] X.env := by rfl) : PE X (.Call (.Name "len" p) [.Call (.Name "set" p2) [a] [] q] [] pos) (upE G Wx (eLs fa)) := by
  refine PE.imp ?_ (RZ.pe_lenSetI hg hm hg2 hm2 ha hc na)
  rintro σ H Q ⟨ρ, ls, S, hs, hh, hp⟩
  refine ⟨ρ, ls, S, hs, hh, (Post.bind hp).mono fun v S1 ρ1 H1 s1 h1 q x rx => ?_⟩
  cases v with
  | loc l =>
    obtain ⟨a, ea, rfl⟩ := rx
    have q : Post G ρ1 H1 (match lstOf l S1 with
      | some ws => match asInts ws with
        | some ns => if ns.Nodup ∧ ns.length ≤ 4000 then Res.ok (W.int (ns.length : Nat)) S1 else .stuck
        | none => .stuck
      | none => .stuck) _ _ := q
    cases hl : lstOf l S1 with
    | none => rw [hl] at q; exact q.elim
    | some ws =>
      rw [hl] at q
      simp only at q
      cases hi : asInts ws with
      | none => rw [hi] at q; exact q.elim
      | some ns =>
        rw [hi] at q
        simp only at q
        by_cases hc : ns.Nodup ∧ ns.length ≤ 4000
        · rw [if_pos hc] at q
          obtain ⟨b, xs, eb, hb, rws⟩ := h1.at_ l _ (lstOf_eq hl)
          rw [ea] at eb
          obtain rfl := Option.some.inj eb
          have ex := asInts_rel rws hi
          subst ex
          exact ⟨a, ns, rfl, .inl (.of hb), hc.1, hc.2, q ρ1 H1 .refl h1 _ rfl⟩
        · rw [if_neg hc] at q; exact q.elim
  | _ => exact q.elim
end
end Mp
set_option Elab.async false
set_option linter.all false
set_option maxRecDepth 100000
set_option maxHeartbeats 4000000
/-! [e for x in xs if .. for y in ys if ..] -/
namespace Mp
open PySem PySem.Spec PyProof.Rows L2
def lc2Go (it : ItW) (g : GW) (t : TM) (fi1 : LSt → M ItW) (g1 : GW) (t1 : TM) (e : EM) (l0 : Nat) (ls : LSt) (vs1 : List Nat) : Nat → Nat → Sto → Res Unit
  | 0, _, _ => .stuck
  | n + 1, i, S => match itNext it i S with
    | none => .stuck
    | some none => .ok () S
    | some (some w) => match g w ls with
      | none => .stuck
      | some ls2 => (NoX (t ls2 S)).bind fun b S3 => if b = true then (NoX (fi1 ls2 S3)).bind fun J S4 => (lcGo J g1 t1 e l0 (wipeL ls2 vs1) (itFuel J S4) 0 S4).bind fun _ S5 => lc2Go it g t fi1 g1 t1 e l0 ls vs1 n (i + 1) S5
        else lc2Go it g t fi1 g1 t1 e l0 ls vs1 n (i + 1) S3
@[simp] def eLc2 (f : LSt → M ItW) (g : GW) (t : TM) (fi1 : LSt → M ItW) (g1 : GW) (t1 : TM) (e : EM) (vs vs1 : List Nat) : EM := fun ls S => (f ls S).bind fun it S1 => (lc2Go it g t fi1 g1 t1 e S1.length (wipeL ls vs) vs1 (itFuel it S1) 0 (S1 ++ [.lst []])).bind fun _ S2 => .ok (.loc S1.length) S2
section
variable {X : Cx} {G : Gi} {Wx : WX}
theorem tLc2_of {fi fi1 : LSt → M ItW} {g g1 : TG} {gm gm1 : GW} {tm tm1 : TM} {em : EM} {vs vs1 : List Nat} (hg : GT G vs g gm) (hg1 : GT G vs1 g1 gm1) : ∀ σ H Q, upE G Wx (eLc2 fi gm tm fi1 gm1 tm1 em vs vs1) σ H Q → tLc2 (upI G Wx fi) g (upT G WNo tm) (upI G WNo fi1) g1 (upT G WNo tm1) (upE G WNo em) vs vs1 σ H Q := by
  rintro σ H Q ⟨ρ, ls, S, hs, hh, hp⟩
  refine ⟨ρ, ls, S, hs, hh, (Post.bind hp).mono fun it S1 ρ1 H1 s1 h1 q J hJ D hD => ?_⟩
  have st0 : Step ρ1 H1 (ext ρ1 S1.length D) (upd H1 D (.lst [])) := Step.new_ h1 hD
  have hh0 := lst_new h1 hD (ws := []) (xs := []) rfl
  obtain ⟨Go, hGo⟩ : ∃ Go, Go = lc2Go it gm tm fi1 gm1 tm1 em S1.length (wipeL ls vs) vs1 := ⟨_, rfl⟩
  obtain ⟨fin, hfin⟩ : ∃ fin : Unit → Sto → Res W, fin = fun _ S2 => .ok (W.loc S1.length) S2 := ⟨_, rfl⟩
  obtain ⟨In, hIn⟩ : ∃ In : Nat → Nat → Hp → Prop, In = fun i n H => ∃ ρ S, RelS G ρ H ls σ ∧ RelH G ρ H S ∧ RelIt G ρ H it J ∧ ρ S1.length = some D ∧ Post G ρ H ((Go n i S).bind fin) (QW G Q) (fun c d H' => Wx c d σ H') := ⟨_, rfl⟩
  refine ⟨In, ⟨itFuel it S1, by
    rw [hIn]
    exact ⟨_, _, (hs.step s1).step st0, hh0, hJ.step st0, ext_same, by rw [hGo, hfin]; exact Post.step st0 q⟩⟩, ?_⟩
  intro i n H hin
  rw [hIn] at hin
  obtain ⟨ρ, S, hs, hh, hJ, hD, hp⟩ := hin
  rw [hGo] at hp
  cases n with
  | zero => exact hp.elim
  | succ n =>
    have nx := hJ ρ H S .refl hh i
    simp only [lc2Go] at hp
    rw [← hGo] at hp
    cases e : itNext it i S with
    | none => rw [e] at hp; exact hp.elim
    | some o =>
      rw [e] at hp nx
      cases o with
      | none =>
        rw [hfin] at hp
        exact .inl ⟨nx, hp ρ H .refl hh _ ⟨D, hD, rfl⟩⟩
      | some w =>
        refine .inr ⟨nx.1, In (i + 1) n, fun H' h => ⟨n, Nat.lt_succ_self n, h⟩, fun x H' y => ?_⟩
        obtain ⟨st, hh', rw'⟩ := nx.2 x H' y
        simp only at hp
        cases e2 : gm w (wipeL ls vs) with
        | none => rw [e2] at hp; exact hp.elim
        | some ls2 =>
          rw [e2] at hp
          simp only at hp
          refine hg rw' ((hs.step st).wiped vs) e2 fun σ2 hs2 hw => ⟨hw.trans wipe_idem, ρ, ls2, S, hs2, hh', ?_⟩
          cases et : tm ls2 S with
          | exc c fs S' => rw [et] at hp; exact hp.elim
          | stuck => rw [et] at hp; exact hp.elim
          | ok b S3 =>
            rw [et] at hp
            intro ρ2 H2 s2 h2
            simp only [NoX, Res.bind] at hp
            cases b with
            | false =>
              show In (i + 1) n H2
              rw [hIn]
              exact ⟨ρ2, S3, (hs.step st).step s2, h2, (hJ.step st).step s2, s2.sub _ _ (st.sub _ _ hD), Post.step (st.trans s2) hp⟩
            | true =>
              simp only [if_true] at hp ⊢
              refine ⟨ρ2, ls2, S3, hs2.step s2, h2, ?_⟩
              cases ef : fi1 ls2 S3 with
              | exc c fs S' => rw [ef] at hp; exact hp.elim
              | stuck => rw [ef] at hp; exact hp.elim
              | ok J4 S4 =>
                rw [ef] at hp
                intro ρ3 H3 s3 h3 J1 hJ1
                simp only [NoX, Res.bind] at hp
                have st3 := (st.trans s2).trans s3
                obtain ⟨I1, hI1⟩ : ∃ I1 : Nat → Nat → Hp → Prop, I1 = fun j m H => ∃ ρ S, RelS G ρ H ls σ ∧ RelS G ρ H ls2 σ2 ∧ RelH G ρ H S ∧ RelIt G ρ H it J ∧ RelIt G ρ H J4 J1 ∧ ρ S1.length = some D ∧ Post G ρ H (((lcGo J4 gm1 tm1 em S1.length (wipeL ls2 vs1) m j S).bind fun _ S5 => Go n (i + 1) S5).bind fin) (QW G Q) (fun c d H' => Wx c d σ H') := ⟨_, rfl⟩
                refine ⟨I1, ⟨itFuel J4 S4, by
                  rw [hI1]
                  exact ⟨ρ3, S4, hs.step st3, hs2.step (s2.trans s3), h3, hJ.step st3, hJ1, st3.sub _ _ hD, Post.step st3 hp⟩⟩, ?_⟩
                intro j m H hin1
                rw [hI1] at hin1
                obtain ⟨ρ, S, ks, ks2, kh, kJ, kJ1, kD, kp⟩ := hin1
                cases m with
                | zero => exact kp.elim
                | succ m =>
                  have ny := kJ1 ρ H S .refl kh j
                  simp only [lcGo] at kp
                  cases e5 : itNext J4 j S with
                  | none => rw [e5] at kp; exact kp.elim
                  | some o5 =>
                    rw [e5] at kp ny
                    cases o5 with
                    | none =>
                      refine .inl ⟨ny, ?_⟩
                      rw [hIn]
                      exact ⟨ρ, S, ks, kh, kJ, kD, kp⟩
                    | some w5 =>
                      refine .inr ⟨ny.1, I1 (j + 1) m, fun H' h => ⟨m, Nat.lt_succ_self m, h⟩, fun x5 H5 y5 => ?_⟩
                      obtain ⟨t5, kh5, rw5⟩ := ny.2 x5 H5 y5
                      simp only at kp
                      cases e6 : gm1 w5 (wipeL ls2 vs1) with
                      | none => rw [e6] at kp; exact kp.elim
                      | some ls3 =>
                        rw [e6] at kp
                        simp only at kp
                        refine hg1 rw5 ((ks2.step t5).wiped vs1) e6 fun σ3 hs3 hw3 => ⟨hw3.trans wipe_idem, ρ, ls3, S, hs3, kh5, ?_⟩
                        cases et1 : tm1 ls3 S with
                        | exc c fs S' => rw [et1] at kp; exact kp.elim
                        | stuck => rw [et1] at kp; exact kp.elim
                        | ok b S6 =>
                          rw [et1] at kp
                          intro ρ6 H6 s6 h6
                          simp only [NoX, Res.bind] at kp
                          cases b with
                          | false =>
                            show I1 (j + 1) m H6
                            rw [hI1]
                            have tt := t5.trans s6
                            exact ⟨ρ6, S6, ks.step tt, ks2.step tt, h6, kJ.step tt, kJ1.step tt, tt.sub _ _ kD, Post.step tt kp⟩
                          | true =>
                            simp only [if_true] at kp ⊢
                            refine ⟨ρ6, ls3, S6, hs3.step s6, h6, ?_⟩
                            cases ee : em ls3 S6 with
                            | exc c fs S' => rw [ee] at kp; exact kp.elim
                            | stuck => rw [ee] at kp; exact kp.elim
                            | ok v S7 =>
                              rw [ee] at kp
                              intro ρ7 H7 s7 h7 z rz
                              simp only [NoX, Res.bind] at kp
                              cases eq : lstOf S1.length S7 with
                              | none => rw [eq] at kp; exact kp.elim
                              | some acc =>
                                rw [eq] at kp
                                simp only at kp
                                by_cases ez : acc.length < big
                                · rw [if_pos ez] at kp
                                  have tt := (t5.trans s6).trans s7
                                  have hD7 : ρ7 S1.length = some D := tt.sub _ _ kD
                                  obtain ⟨a, xs, e0, ea, e1, r1⟩ := rel_lst h7 (x := .ref D) ⟨D, hD7, rfl⟩ (lstOf_eq eq)
                                  cases e0
                                  have hw := h7.warm (lstOf_eq eq) (by simp)
                                  have sp : Step ρ7 H7 ρ7 (upd H7 D (.lst (xs ++ [z]))) := Step.put ea hw ⟨_, e1, rfl⟩
                                  have tu := tt.trans sp
                                  refine ⟨xs, e1, by rw [← r1.len]; exact Nat.lt_of_lt_of_le ez big_le, ?_⟩
                                  rw [hI1]
                                  exact ⟨ρ7, _, ks.step tu, ks2.step tu, lst_put h7 ea hw ⟨_, e1, rfl⟩ (r1.append (us := [v]) ⟨z, [], rfl, rz, rfl⟩), kJ.step tu, kJ1.step tu, hD7, Post.step tu kp⟩
                                · rw [if_neg ez] at kp; exact kp.elim
theorem e_lc2 {elt tg iter tg1 iter1 : Expr} {ifs ifs1 : List Expr} {scope : Scope} {own : List (Str × Nat)} {vs1 : List Nat} {pos : Pos} {fi fi1 : LSt → M ItW} {g g1 : TG} {gm gm1 : GW} {tm tm1 : TM} {em : EM} (hc : X.calm = true) (hN : X.N.Nodup) (hi : PI X tg iter (upI G Wx fi)) (ok : BlkOk X.N X.env.scope scope own) (hv : ∀ i ∈ vs1, i ∈ own.map (·.2))
    (hgt : GT G (own.map (·.2)) g gm) (hgt1 : GT G vs1 g1 gm1)
    (hg : ∀ (s : Shared) (H : Hp) (C : Addr) (cl : List (Str × Addr)) (fp : List Addr), PG (X.blk s H scope (compEnvC scope cl C X.env) fp) tg g)
    (ht : ∀ (s : Shared) (H : Hp) (C : Addr) (cl : List (Str × Addr)) (fp : List Addr), Takes (X.blk s H scope (compEnvC scope cl C X.env) fp) WNo → PTs (X.blk s H scope (compEnvC scope cl C X.env) fp) ifs (upT G WNo tm))
    (hi1 : ∀ (s : Shared) (H : Hp) (C : Addr) (cl : List (Str × Addr)) (fp : List Addr), Takes (X.blk s H scope (compEnvC scope cl C X.env) fp) WNo → PI (X.blk s H scope (compEnvC scope cl C X.env) fp) tg1 iter1 (upI G WNo fi1))
    (hg1 : ∀ (s : Shared) (H : Hp) (C : Addr) (cl : List (Str × Addr)) (fp : List Addr), PG (X.blk s H scope (compEnvC scope cl C X.env) fp) tg1 g1)
    (ht1 : ∀ (s : Shared) (H : Hp) (C : Addr) (cl : List (Str × Addr)) (fp : List Addr), Takes (X.blk s H scope (compEnvC scope cl C X.env) fp) WNo → PTs (X.blk s H scope (compEnvC scope cl C X.env) fp) ifs1 (upT G WNo tm1))
    (he : ∀ (s : Shared) (H : Hp) (C : Addr) (cl : List (Str × Addr)) (fp : List Addr), Takes (X.blk s H scope (compEnvC scope cl C X.env) fp) WNo → PE (X.blk s H scope (compEnvC scope cl C X.env) fp) elt (upE G WNo em))
    (hs : ∀ x, foldedSetIterable iter X.env x = pure x := by intro _; rfl) (hs1 : ∀ env x, foldedSetIterable iter1 env x = pure x := by intro _ _; rfl) :
    PE X (.ListComp elt [⟨tg, iter, ifs, 0⟩, ⟨tg1, iter1, ifs1, 0⟩] scope pos) (upE G Wx (eLc2 fi gm tm fi1 gm1 tm1 em (own.map (·.2)) vs1)) :=
  PE.imp (tLc2_of hgt hgt1) (pe_lc2 hc hN hi ok hv hg (fun s H C cl fp => ht s H C cl fp LamX.takes0) (fun s H C cl fp => hi1 s H C cl fp LamX.takes0) hg1 (fun s H C cl fp => ht1 s H C cl fp LamX.takes0) (fun s H C cl fp => he s H C cl fp LamX.takes0) hs hs1)
end
end Mp
set_option Elab.async false
set_option linter.all false
set_option maxRecDepth 100000
set_option maxHeartbeats 4000000
/-! a text times an int -/
namespace Mp
open PySem PySem.Spec PyProof.Rows L2
def repT (z : Str) (n : Nat) : Str := ⟨(List.replicate n z.cps).foldl (· ++ ·) #[]⟩
theorem fold_len (c : Array Nat) : ∀ (n : Nat) (a : Array Nat), ((List.replicate n c).foldl (· ++ ·) a).size = a.size + n * c.size
  | 0, a => by simp
  | n + 1, a => by
    rw [List.replicate_succ, List.foldl_cons, fold_len c n, Array.size_append, Nat.succ_mul]
    omega
theorem repT_len (z : Str) (n : Nat) : (repT z n).length = n * z.length := by
  show ((List.replicate n z.cps).foldl (· ++ ·) #[]).size = n * z.cps.size
  rw [fold_len]; simp
@[simp] def repS : W → W → M W := fun v u S => match v, u with
  | .str z, .int n => if 2 ≤ n ∧ n ≤ 1000 ∧ 1 ≤ z.length ∧ z.length ≤ 1000 then .ok (.str (repT z n.toNat)) S else .stuck
  | _, _ => .stuck
section
variable {X : Cx} {G : Gi}
theorem o_repS : OpR X (binaryOp .Mult) (upR G repS) := by
  intro pins s σ H x y v u Q I rx ry h
  obtain ⟨ρ, a, b, S, ra, rb, hh, hp⟩ := h
  cases a with
  | str z =>
    cases b with
    | int n =>
      have hp : Post G ρ H (if 2 ≤ n ∧ n ≤ 1000 ∧ 1 ≤ z.length ∧ z.length ≤ 1000 then Res.ok (W.str (repT z n.toNat)) S else .stuck) _ _ := hp
      by_cases hc : 2 ≤ n ∧ n ≤ 1000 ∧ 1 ≤ z.length ∧ z.length ≤ 1000
      · rw [if_pos hc] at hp
        obtain rfl : x = .str z := ra
        obtain rfl : y = .int n := rb
        obtain ⟨t, rfl⟩ := rx
        obtain ⟨t', rfl⟩ := ry
        obtain ⟨h1, h2, h3, h4⟩ := hc
        have n1 : ¬ n < 1 := by omega
        have e1 : (n == 1 || z.length == 0) = false := by
          have a1 : (n == 1) = false := by rw [beq_eq_false_iff_ne]; omega
          have a2 : (z.length == 0) = false := by rw [beq_eq_false_iff_ne]; omega
          rw [a1, a2]; rfl
        have hl : n.toNat * z.length ≤ 1000000 := by
          have : n.toNat ≤ 1000 := by omega
          calc n.toNat * z.length ≤ 1000 * 1000 := Nat.mul_le_mul this h4
            _ = 1000000 := rfl
        refine PySem.P.mul_str (by rw [decide_eq_false (by omega), decide_eq_false (by omega)]; rfl) (fun _ _ => ?_) (fun _ _ => ?_) ?_
        · have : (1000 : Int) ≤ (2 ^ 63 - 1) / n := by
            refine Int.le_ediv_of_mul_le (by omega) ?_
            omega
          omega
        · exact PyProof.Rows.short24 (by rw [Nat.mul_comm]; omega)
        · rw [if_neg n1, if_neg (by rw [e1]; exact Bool.false_ne_true)]
          refine ⟨?_, .str (repT z n.toNat), H, I.tok _, ⟨_, rfl⟩, hp ρ H .refl hh _ rfl⟩
          show (repT z n.toNat).length ≤ sizeLine
          rw [repT_len]
          exact le_line (Nat.le_trans hl (by unfold big; omega))
      · rw [if_neg hc] at hp; exact hp.elim
    | _ => exact hp.elim
  | _ => exact hp.elim
end
end Mp
set_option Elab.async false
set_option linter.all false
set_option maxRecDepth 100000
set_option maxHeartbeats 4000000
namespace GQ
open PySem PySem.SeqAt
open AutoSeq1 (wpAny_loadPart')
open MeetsSeq MeetsSeq2 MeetsSeq3 SeqRoads2
section
variable {prog : Program} {w : World} {A : Around} {R : Result → Shared → Prop}
/-- in, item by item: J is what holds while the items rest are still to be looked at -/
theorem tuple_inR (l : Addr) (items : Array Value) (n : Nat) (dd : Option Addr) (sl : Array (Option Value)) (x : Value) (J : List Value → Shared → Prop) (D : Shared → Prop)
    (turn : ∀ y rest s, J (y :: rest) s → wpAny (model prog w) A.in1 (eqBool y x) (fun r s' => r = false ∧ J rest s' ∨ r = true ∧ D s') (fun e s' => R (.error e) s') s)
    (fin : ∀ s, J [] s → R (.ok (.ret (.bool false))) s) (dif : ∀ s, D s → R (.ok (.ret (.bool true))) s)
    {s : Shared} (atL : s.heap.get? l = some { cls := .type "tuple", dict := dd, data := .seq items n, slots := sl }) (start : J items.toList s) :
    wpAny (model prog w) A.in1 (Builtin.«tuple.__contains__» ⟨[.ref l, x], []⟩) (FinOf prog w A R) (fun e s' => R (.error e) s') s := by
  obtain ⟨heap, gens, drawn, toks, os⟩ := s
  wp_walk using wpAny_loadPart' atL, wpAny_forIn_array _ (fun rest b s' => b.1 = none ∧ J rest s') _
  case h => exact ⟨rfl, start⟩
  case fin =>
    rintro ⟨_, _⟩ s' ⟨rfl, now⟩
    have told := fin s' now
    wp_walk
    exact told
  case turn =>
    rintro y rest ⟨_, _⟩ s' ⟨rfl, now⟩
    refine wpAny_bind (wpAny_mono (turn y rest s' now) ?_ fun _ _ e => e)
    rintro _ s2 (⟨rfl, q⟩ | ⟨rfl, q⟩) <;> wp_walk
    · exact ⟨rfl, q⟩
    · exact dif _ q
end
end GQ
namespace Mp
open PySem PySem.Spec PyProof.Rows L2 PySem.SeqAt PySem.Calls
/-! ### x in a tuple of own objects -/
noncomputable def inE (n : Nat) (sub : Nat → Nat → Bool) (tab : Nat → Option BM) (S : Sto) (v : W) : List W → Option Bool
  | u :: us => match itE n sub tab S u v with
    | some true => some true
    | some false => inE n sub tab S v us
    | none => none
  | [] => some false
noncomputable def inT (neg : Bool) (n : Nat) (sub : Nat → Nat → Bool) (tab : Nat → Option BM) : W → W → M W := fun v u S => match u with
  | .tup us => match inE n sub tab S v us with
    | some b => .ok (.bl (if neg then !b else b)) S
    | none => .stuck
  | _ => .stuck
section
variable {X : Cx} {G : Gi} {k : Nat}
theorem o_seqIn {n sub} {tab : Nat → Option BM} (hK : G.K = X.K) (hr : Rm (k + 1) X.A) (KT : KitT G n sub) (ET : EqT G n sub) (T : ∀ c, DuOk X.prog X.w X.mg X.base G k "__eq__" c (tab c)) : OpR X (compareOp .In) (upR G (inT false n sub tab)) := by
  rintro pins s σ H x y va ua Q I rx ry ⟨ρ, v, u, S, rv, ru, hh, hp⟩
  cases u with
  | tup us =>
    simp only [inT] at hp
    cases q : inE n sub tab S v us with
    | none => rw [q] at hp; exact hp.elim
    | some b =>
      rw [q] at hp
      obtain ⟨m, its, k2, dd, sl, rfl, atM, r⟩ := tup_row hK I ry ru
      have out : ∀ (r : Bool) s', r = b → Now X G pins σ ρ H S s' → EP X pins σ Q (.bool r) s' := fun r s' e ⟨ρ', H', I', st, h'⟩ => ⟨.bl r, H', I', rfl, hp ρ' H' st h' _ (e ▸ rfl)⟩
      show wpAny (model X.prog X.w) X.A (contains (.ref m) va >>= fun r => pure (Value.bool r)) _ _ _
      refine wpAny_bind (wpAny_contains_slot ⟨_, atM, rfl⟩ F.slot_tuple_contains (GQ.call_here F.slot_tuple_contains ⟨_, atM, rfl⟩ F.entry_tuple_contains (F.args_tuple_contains_2 _ _) ?_))
      refine GQ.tuple_inR (R := wants (fun r s' => wpAny (model X.prog X.w) X.A (truthy r) (fun b s'' => wpAny (model X.prog X.w) X.A (pure (Value.bool b)) (EP X pins σ Q) X.xe s'') X.xe s') X.xe) m _ _ _ _ _
        (fun rest s' => Now X G pins σ ρ H S s' ∧ ∃ us, Row G ρ H us rest ∧ inE n sub tab S v us = some b) (fun s' => b = true ∧ Now X G pins σ ρ H S s') ?_ ?_ ?_ atM ⟨⟨ρ, H, I, .refl, hh⟩, us, r, q⟩
      · rintro y rest s' ⟨⟨ρ', H', I', st, h'⟩, ws, r, q⟩
        obtain ⟨w, ws, z, rfl, rw_, aw, r⟩ := r.one
        simp only [inE] at q
        cases q1 : itE n sub tab S w v with
        | none => rw [q1] at q; cases q
        | some c =>
          rw [q1] at q
          refine wpAny_mono (item_ok hK hr KT ET T I' aw rx (rw_.step st) (rv.step st) h' q1) (fun r' s2 ⟨e2, ρ2, H2, I2, st2, h2⟩ => ?_) fun _ _ e => e
          have now : Now X G pins σ ρ H S s2 := ⟨ρ2, H2, I2, st.trans st2, h2⟩
          cases c with
          | true => exact .inr ⟨e2, (Option.some.inj q).symm, now⟩
          | false => exact .inl ⟨e2, now, ws, r, q⟩
      · rintro s' ⟨now, ws, r, q⟩
        obtain rfl := r.none
        exact wpAny_pure (wpAny_pure (out false s' (Option.some.inj q) now))
      · exact fun s' ⟨e, now⟩ => wpAny_pure (wpAny_pure (out true s' e.symm now))
  | _ => exact hp.elim
end
end Mp
set_option Elab.async false
set_option linter.all false
set_option maxRecDepth 100000
set_option maxHeartbeats 4000000
/-! own operators: a op b by a's class; x in o by o's class -/
namespace GO
open PySem PySem.W PySem.Calls PyProof.Rows Builtin
section
variable {prog : Program} {w : World} {A : Around} {E : Value → Shared → Prop} {s : Shared} {K : Frag} {x C L f : Addr} {h₀ : Heap} {m : Str → Option Value} {ox : Obj} {od : Option Obj} {op : Operator} {b tb : Value} {Q : Value → Shared → Prop}
/-- b's class has no such operator -/
theorem bin_no (F : Fr h₀ L s.heap m) (X₀ : K.In h₀) (I : InstAt s.heap x ox C od) (tyb : Looks (model prog w) s.heap (typeOf b) tb) (hne : (Value.ref C == tb) = false) (hc : selfFirst K C = true)
    (hs : findIn K (.ref C) (PySem.dunder op.info.2) = some (some (.ref f))) (hf : isFn K (.ref f) = true) (hno : Looks (model prog w) s.heap (fillsNumberSlot tb op.info.2) false)
    (h : wpAny (model prog w) A (call (.ref f) [.ref x, b]) (W.CmpBack Q) E s) : wpAny (model prog w) A (binaryOp op (.ref x) b) Q E s := by
  have X : K.In s.heap := X₀.keeps F.keep
  obtain ⟨cda, more, hcda, hmro⟩ := ksp_first hc
  rcases hi : op.info with ⟨sgn, nmo⟩
  rw [hi] at hs hno
  dsimp only at hs hno
  have tried := ksp_try X I hs hf h
  obtain ⟨hh, gn, dr, tks, os⟩ := s
  have look1 : Looks (model prog w) hh (typeOf (.ref x)) (.ref C) := I.type
  have look2 : Looks (model prog w) hh (typeOf b) tb := tyb
  have look3 : Looks (model prog w) hh (fillsNumberSlot (.ref C) nmo) true := fills_K X hcda hmro hs
  have look4 : Looks (model prog w) hh (fillsNumberSlot tb nmo) false := hno
  simp only [binaryOp, hi]
  refine wpAny_holding ?_
  refine wpAny_bind ?_
  unfold binaryOp1
  refine wpAny_bind (look1.at (wpAny_bind (look2.at (wpAny_bind (look3.at ?_)))))
  simp only [hne, if_false, Bool.false_eq_true]
  ksp_lk
  refine wpAny_mono tried (fun r s' got => ?_) fun _ _ e => e
  obtain ⟨v, rfl, hq⟩ := got
  ksp_lk
  exact hq
/-- b of a built-in type -/
theorem bin_ty {T : String} {fo ro rc : Option Value} (F : Fr h₀ L s.heap m) (X₀ : K.In h₀) (I : InstAt s.heap x ox C od) (tyb : Looks (model prog w) s.heap (typeOf b) (.type T)) (hc : selfFirst K C = true)
    (hs : findIn K (.ref C) (PySem.dunder op.info.2) = some (some (.ref f))) (hf : isFn K (.ref f) = true) (hr : findIn K (.ref C) (dunderR op.info.2) = some rc) (hp : rc = none ∨ ∃ g : Addr, rc = some (.ref g))
    (tf : findIn K (.type T) (PySem.dunder op.info.2) = some fo) (tr : findIn K (.type T) (dunderR op.info.2) = some ro) (ts : subIn K (.type T) (.ref C) = some false)
    (h : wpAny (model prog w) A (call (.ref f) [.ref x, b]) (W.CmpBack Q) E s) : wpAny (model prog w) A (binaryOp op (.ref x) b) Q E s := by
  have X : K.In s.heap := X₀.keeps F.keep
  obtain ⟨cda, more, hcda, hmro⟩ := ksp_first hc
  rcases hi : op.info with ⟨sgn, nmo⟩
  rw [hi] at hs hr tf tr
  dsimp only at hs hr tf tr
  have tried := ksp_try X I hs hf h
  obtain ⟨hh, gn, dr, tks, os⟩ := s
  have look1 : Looks (model prog w) hh (typeOf (.ref x)) (.ref C) := I.type
  have look2 : Looks (model prog w) hh (typeOf b) (.type T) := tyb
  have look3 : Looks (model prog w) hh (fillsNumberSlot (.ref C) nmo) true := fills_K X hcda hmro hs
  have look4 : Looks (model prog w) hh (fillsNumberSlot (.type T) nmo) ((fo.isSome && !isSeqSlot fo) || (ro.isSome && !isSeqSlot ro)) := ksp_fillsT X tf tr
  have look5 : Looks (model prog w) hh (isSubtype (.type T) (.ref C)) false := looks_subIn X ts
  have look6 : Looks (model prog w) hh (numberSlotInPython (.ref C) nmo) true := ksp_inPy X hs hr hp
  have look7 : Looks (model prog w) hh (numberSlotInPython (.type T) nmo) false := Looks.of_pure rfl
  have look8 : Looks (model prog w) hh (typeLookup (.type T) (dunderR nmo)) ro := looks_findIn X tr
  generalize ((fo.isSome && !isSeqSlot fo) || (ro.isSome && !isSeqSlot ro)) = right at look4
  have hne : (Value.ref C == Value.type T) = false := by
    rw [Bool.eq_false_iff]
    intro q
    cases beq_iff_eq.mp q
  simp only [binaryOp, hi]
  refine wpAny_holding ?_
  refine wpAny_bind ?_
  unfold binaryOp1
  refine wpAny_bind (look1.at (wpAny_bind (look2.at (wpAny_bind (look3.at ?_)))))
  simp only [hne, if_false, Bool.false_eq_true]
  cases right with
  | false =>
    ksp_lk
    refine wpAny_mono tried (fun r s' got => ?_) fun _ _ e => e
    obtain ⟨v, rfl, hq⟩ := got
    ksp_lk
    exact hq
  | true =>
    ksp_lk
    refine wpAny_mono tried (fun r s' got => ?_) fun _ _ e => e
    obtain ⟨v, rfl, hq⟩ := got
    ksp_lk
    exact hq
end
section
variable {M : Model} {h : Heap} {K : Frag} {D : Addr} {nm : String}
theorem anyM_false {α : Type} {f : α → Sem Bool} : ∀ {l : List α}, (∀ c ∈ l, Looks M h (f c) false) → Looks M h (l.anyM f) false
  | [], _ => .now
  | c :: l, hc => (hc c List.mem_cons_self).andThen (anyM_false fun d hd => hc d (List.mem_cons_of_mem _ hd))
/-- none of the classes above has it -/
def noOpB (K : Frag) (nm : String) (D : Addr) : Bool := match clsIn K D with
  | some cd => cd.mro.all fun c => He.eqO (findIn K c (PySem.dunder nm)) (some none) && He.eqO (findIn K c (dunderR nm)) (some none)
  | none => false
theorem fills_no (X : K.In h) (hb : noOpB K nm D = true) : Looks M h (fillsNumberSlot (.ref D) nm) false := by
  unfold noOpB at hb
  split at hb
  · rename_i cd hcd
    intro A Q E s k q
    unfold fillsNumberSlot
    refine wpAny_bind ((looks_clsIn X hcd).andThen (f := fun cd => pure cd.mro) .now A _ E s k ?_)
    refine anyM_false (fun c hc => ?_) A _ E s k q
    obtain ⟨q1, q2⟩ := He.ba (List.all_eq_true.mp hb c hc)
    have h1 := He.eqO_ok q1
    have h2 := He.eqO_ok q2
    cases c with
    | type T => exact (looks_findIn X h1).andThen ((looks_findIn X h2).andThen .now)
    | _ =>
      refine anyM_false (l := [PySem.dunder nm, dunderR nm]) fun z hz => ?_
      simp only [List.mem_cons, List.not_mem_nil, or_false] at hz
      rcases hz with rfl | rfl
      · exact (looks_findIn X h1).andThen .now
      · exact (looks_findIn X h2).andThen .now
  · cases hb
end
end GO
set_option Elab.async false
set_option linter.all false
set_option maxRecDepth 100000
set_option maxHeartbeats 4000000
namespace Mp
open PySem PySem.Spec PyProof.Rows L2
/-! ### a op b by a's class -/
/-- what b may be: c's own class, one without the operator, a built-in type -/
@[simp] def okK (n : Nat) (sub : Nat → Nat → Bool) (no : Nat → Bool) (c : Nat) : Kd → Bool
  | .b _ => decide (c < n)
  | .c d => (d == c || no d) && (decide (d < n) && (decide (c < n) && !sub (d + 1000) (d + 1000)))
@[simp] def opO (n : Nat) (sub : Nat → Nat → Bool) (no : Nat → Bool) (tab : Nat → Option BM) : W → W → M W := fun v u S => match objV v S with
  | some (c, _) => match tab c with
    | some g => match kdW u S with
      | some kd => if okK n sub no c kd = true then (g [v, u] S).bind fun r S' => match r with
        | .ins d fs => .ok (.ins d fs) S'
        | _ => .stuck else .stuck
      | none => .stuck
    | none => .stuck
  | none => .stuck
@[simp] def binO (n : Nat) (sub : Nat → Nat → Bool) (no : Nat → Bool) (tab : Nat → Option BM) (fa fb : EM) : EM := fun ls S => (fa ls S).bind fun v S1 => (fb ls S1).bind fun u S2 => opO n sub no tab v u S2
structure OpT (G : Gb) (nm : String) (no : Nat → Bool) (tab : Nat → Option BM) : Prop where
  sf : ∀ c, (tab c).isSome = true → PySem.W.selfFirst G.K (G.cls c) = true ∧ PySem.W.findIn G.K (.ref (G.cls c)) (dunderR nm) = some none
  ty : ∀ t ∈ tyNs, (PySem.W.findIn G.K (.type t) (PySem.dunder nm)).isSome = true ∧ (PySem.W.findIn G.K (.type t) (dunderR nm)).isSome = true
  no : ∀ d, no d = true → GO.noOpB G.K nm (G.cls d) = true
theorem ne_no {K : PySem.W.Frag} {nm : String} {C D f : Addr} (h : GO.noOpB K nm D = true) (hs : PySem.W.findIn K (.ref C) (PySem.dunder nm) = some (some (.ref f))) (hc : PySem.W.selfFirst K C = true) : (Value.ref C == Value.ref D) = false := by
  rw [Bool.eq_false_iff]
  intro q
  obtain rfl : C = D := by
    have := beq_iff_eq.mp q
    injection this
  obtain ⟨cda, more, hcda, hmro⟩ := PySem.W.ksp_first hc
  unfold GO.noOpB at h
  rw [hcda] at h
  have h2 := (He.ba (List.all_eq_true.mp h (.ref C) (by rw [hmro]; exact List.mem_cons_self))).1
  rw [He.eqO_ok h2] at hs
  cases hs
section
variable {X : Cx} {G : Gi} {Wx : WX} {k n : Nat} {sub : Nat → Nat → Bool} {no : Nat → Bool} {tab : Nat → Option BM} {a b : Expr} {fa fb : EM} {pos : Pos} {op : Operator} {id : Str}
theorem e_opO (hid : PySem.dunder op.info.2 = id) (tk : Takes X Wx) (hK : G.K = X.K) (hr : Rm (k + 1) X.A) (KT : KitT G n sub) (ET : EqT G n sub) (T : ∀ c, DuOk X.prog X.w X.mg X.base G k id c (tab c)) (O : OpT G op.info.2 no tab)
    (ha : PE X a (upE G Wx fa)) (hb : PE X b (upE G Wx fb)) : PE X (.BinOp a op b pos) (upE G Wx (binO n sub no tab fa fb)) := by
  refine ⟨fun pins s σ H Q I ⟨ρ, ls, S, hs, hh, hp⟩ => ?_⟩
  refine wpAny_BinOp (binT (R := fun x y H2 => ∃ ρ v u S, RelW G ρ H2 v x ∧ RelW G ρ H2 u y ∧ RelH G ρ H2 S ∧ Post G ρ H2 (opO n sub no tab v u S) (QW G Q) fun c d H' => Wx c d σ H') ha hb I
    ⟨ρ, ls, S, hs, hh, (Post.bind hp).mono fun v S1 ρ1 H1 s1 h1 q x rx => ⟨ρ1, ls, S1, hs.step s1, h1, (Post.bind q).mono fun u S2 ρ2 H2 s2 h2 q2 y ry => ⟨ρ2, v, u, S2, rx.step s2, ry, h2, q2⟩⟩⟩ fun va ua s2 x y H2 I2 rx ry q => ?_)
  obtain ⟨ρ2, v, u, S2, rv, ru, h2, hp2⟩ := q
  simp only [opO] at hp2
  cases q1 : objV v S2 with
  | none => rw [q1] at hp2; exact hp2.elim
  | some cf =>
    obtain ⟨c, fs⟩ := cf
    rw [q1] at hp2
    simp only at hp2
    have Tc := T c
    have Oc := O.sf c
    cases q2 : tab c with
    | none => rw [q2] at hp2; exact hp2.elim
    | some g =>
      rw [q2] at hp2 Tc Oc
      simp only at hp2
      obtain ⟨fa', d1, d2, F⟩ := Tc
      obtain ⟨o1, o2⟩ := Oc rfl
      have d0 := d1
      have o0 := o1
      rw [hK] at d1 d2 F o1 o2
      cases q3 : kdW u S2 with
      | none => rw [q3] at hp2; exact hp2.elim
      | some kd =>
        rw [q3] at hp2
        simp only at hp2
        by_cases z : okK n sub no c kd = true
        · rw [if_pos z] at hp2
          obtain ⟨aa, ox, od, rfl, J⟩ := rel_inst I2 h2 rv q1
          obtain rfl : va = Value.ref aa := rx
          have hi : isiK n sub kd (.glo c) ≠ none := by
            cases kd with
            | b t => simp only [okK, decide_eq_true_eq] at z; simp only [isiK, if_pos z]; simp
            | c d =>
              simp only [okK, Bool.and_eq_true, decide_eq_true_eq] at z
              simp only [isiK, if_pos z.2.1, if_pos z.2.2.1]; simp
          obtain ⟨r0, hr0⟩ := Option.ne_none_iff_exists'.mp hi
          have hx : xkK sub kd = false := by
            cases kd with
            | b t => rfl
            | c d =>
              simp only [okK, Bool.and_eq_true, Bool.not_eq_true'] at z
              exact z.2.2.2
          have ty := kd_ty KT ru h2 q3 hr0 hx
          rw [hK] at ty
          obtain ⟨P, Z, pz, _⟩ := kit_of I2 ry ty
          have look := Z.ty (model X.prog X.w) s2.heap I2.kIn pz
          obtain ⟨m, hF⟩ := I2.fr
          have call : wpAny (model X.prog X.w) X.A (PySem.call (.ref fa') [.ref aa, ua]) (PySem.W.CmpBack (EP X pins σ Q)) X.xe s2 := by
            refine wpAny_mono (wpAny_call (run_R (Q := fun y H' => ∃ p, y = .ref p ∧ Q (.ref p) H') tk F (hr.mono (Nat.le_succ _)) I2 (vs := [.ref aa, y]) (us := [Value.ref aa, ua]) (.cons rfl (.cons ry .nil)) ⟨ρ2, [v, u], S2, ⟨_, _, rfl, rv, _, _, rfl, ru, rfl⟩, h2, (Post.bind hp2).mono fun w S3 ρ3 H3 s3 h3 q y' ry' => ?_⟩)) (fun r s' hy => ?_) fun _ _ z => z
            · cases w with
              | ins d fs' =>
                obtain ⟨p, xs, rfl, h4, h5⟩ := ry'
                exact ⟨p, rfl, q ρ3 H3 .refl h3 _ ⟨p, xs, rfl, h4, h5⟩⟩
              | _ => exact q.elim
            · obtain ⟨x', H', I', rx', p, rfl, q⟩ := hy
              obtain rfl : r = Value.ref p := rx'
              exact ⟨.ref p, H', I', rfl, q⟩
          subst hid
          cases kd with
          | b t =>
            have ht := kdW_b q3
            have hcn : c < n := by simpa [okK] using z
            obtain ⟨t1, t2⟩ := O.ty t ht
            obtain ⟨fo, hfo⟩ := Option.isSome_iff_exists.mp t1
            obtain ⟨ro, hro⟩ := Option.isSome_iff_exists.mp t2
            rw [hK] at hfo hro
            have ts := ET.s1 t ht c hcn
            rw [hK] at ts
            exact GO.bin_ty hF I2.ok.mod.kin J look o1 d1 d2 o2 (.inl rfl) hfo hro ts call
          | c d =>
            simp only [okK, Bool.and_eq_true, Bool.or_eq_true, beq_iff_eq] at z
            rcases z.1 with e | e
            · subst e
              exact PySem.W.binop_K hF I2.ok.mod.kin J look o1 d1 d2 call
            · have nd := O.no d e
              have ne := ne_no nd d0 o0
              rw [hK] at nd
              exact GO.bin_no hF I2.ok.mod.kin J look ne o1 d1 d2 (GO.fills_no I2.kIn nd) call
        · rw [if_neg z] at hp2; exact hp2.elim
end
end Mp
set_option Elab.async false
set_option linter.all false
set_option maxRecDepth 100000
set_option maxHeartbeats 4000000
namespace Mp
open PySem PySem.Spec PyProof.Rows L2
/-! ### x in o by o's class -/
@[simp] def conO (neg : Bool) (tab : Nat → Option BM) : W → W → M W := fun v u S => match objV u S with
  | some (c, _) => match tab c with
    | some g => (NoX (g [u, v] S)).bind fun r S' => match r with
      | .bl z => .ok (.bl (if neg then !z else z)) S'
      | _ => .stuck
    | none => .stuck
  | none => .stuck
section
variable {X : Cx} {G : Gi} {k : Nat}
theorem o_conO {tab : Nat → Option BM} (hK : G.K = X.K) (hr : Rm (k + 1) X.A) (T : ∀ c, DuOk X.prog X.w X.mg X.base G k "__contains__" c (tab c)) : OpR X (compareOp .In) (upR G (conO false tab)) := by
  rintro pins s σ H x y va ua Q I rx ry ⟨ρ, v, u, S, rv, ru, hh, hp⟩
  simp only [conO] at hp
  cases q1 : objV u S with
  | none => rw [q1] at hp; exact hp.elim
  | some cf =>
    obtain ⟨c, fs⟩ := cf
    rw [q1] at hp
    simp only at hp
    have Tc := T c
    cases q2 : tab c with
    | none => rw [q2] at hp; exact hp.elim
    | some g =>
      rw [q2] at hp Tc
      simp only at hp
      obtain ⟨fa, h1, h2, F⟩ := Tc
      rw [hK] at h1 h2 F
      obtain ⟨a, ox, od, rfl, J⟩ := rel_inst I hh ru q1
      obtain rfl : ua = Value.ref a := ry
      obtain ⟨m, hF⟩ := I.fr
      refine PySem.W.in_K hF I.ok.mod.kin J h1 h2 ?_
      refine wpAny_mono (du_run (vs := [.ref a, x]) (us := [.ref a, va]) (Q := fun y H' => ∃ z, y = .bl z ∧ Q (.bl z) H') F (hr.mono (Nat.le_succ _)) I.env0 I (.cons rfl (.cons rx .nil)) ⟨ρ, [u, v], S, ⟨_, _, rfl, ru, _, _, rfl, rv, rfl⟩, hh, (NoX_post (Post.bind hp)).mono fun w S1 ρ1 H1 s1 h3 q y' ry' => ?_⟩) (fun y' s' hy => ?_) fun _ _ z => z
      · cases w with
        | bl z => cases ry'; exact ⟨z, rfl, q ρ1 H1 .refl h3 _ rfl⟩
        | _ => exact q.elim
      · obtain ⟨x', H', I', rx', z, rfl, q⟩ := hy
        cases rx'
        exact wpAny_pure ⟨.bl z, H', I', rfl, q⟩
theorem o_conN {tab : Nat → Option BM} (hK : G.K = X.K) (hr : Rm (k + 1) X.A) (T : ∀ c, DuOk X.prog X.w X.mg X.base G k "__contains__" c (tab c)) : OpR X (compareOp .NotIn) (upR G (conO true tab)) := by
  rintro pins s σ H x y va ua Q I rx ry ⟨ρ, v, u, S, rv, ru, hh, hp⟩
  simp only [conO] at hp
  cases q1 : objV u S with
  | none => rw [q1] at hp; exact hp.elim
  | some cf =>
    obtain ⟨c, fs⟩ := cf
    rw [q1] at hp
    simp only at hp
    have Tc := T c
    cases q2 : tab c with
    | none => rw [q2] at hp; exact hp.elim
    | some g =>
      rw [q2] at hp Tc
      simp only at hp
      obtain ⟨fa, h1, h2, F⟩ := Tc
      rw [hK] at h1 h2 F
      obtain ⟨a, ox, od, rfl, J⟩ := rel_inst I hh ru q1
      obtain rfl : ua = Value.ref a := ry
      obtain ⟨m, hF⟩ := I.fr
      refine PySem.W.notIn_K hF I.ok.mod.kin J h1 h2 ?_
      refine wpAny_mono (du_run (vs := [.ref a, x]) (us := [.ref a, va]) (Q := fun y H' => ∃ z, y = .bl z ∧ Q (.bl (!z)) H') F (hr.mono (Nat.le_succ _)) I.env0 I (.cons rfl (.cons rx .nil)) ⟨ρ, [u, v], S, ⟨_, _, rfl, ru, _, _, rfl, rv, rfl⟩, hh, (NoX_post (Post.bind hp)).mono fun w S1 ρ1 H1 s1 h3 q y' ry' => ?_⟩) (fun y' s' hy => ?_) fun _ _ z => z
      · cases w with
        | bl z => cases ry'; exact ⟨z, rfl, q ρ1 H1 .refl h3 _ rfl⟩
        | _ => exact q.elim
      · obtain ⟨x', H', I', rx', z, rfl, q⟩ := hy
        cases rx'
        exact wpAny_pure ⟨.bl (!z), H', I', rfl, q⟩
end
/-! ### the facts of own operators -/
structure OpL (G : Gb) (nm : String) (cs ns : List Nat) : Prop where
  sf : ∀ c ∈ cs, PySem.W.selfFirst G.K (G.cls c) = true ∧ PySem.W.findIn G.K (.ref (G.cls c)) (dunderR nm) = some none
  ty : ∀ t ∈ tyNs, (PySem.W.findIn G.K (.type t) (PySem.dunder nm)).isSome = true ∧ (PySem.W.findIn G.K (.type t) (dunderR nm)).isSome = true
  no : ∀ d ∈ ns, GO.noOpB G.K nm (G.cls d) = true
def opLB (G : Gb) (nm : String) (cs ns : List Nat) : Bool :=
  (cs.all fun c => PySem.W.selfFirst G.K (G.cls c) && He.eqO (PySem.W.findIn G.K (.ref (G.cls c)) (dunderR nm)) (some none)) &&
  ((tyNs.all fun t => (PySem.W.findIn G.K (.type t) (PySem.dunder nm)).isSome && (PySem.W.findIn G.K (.type t) (dunderR nm)).isSome) &&
   ns.all fun d => GO.noOpB G.K nm (G.cls d))
theorem opLB_ok {G : Gb} {nm : String} {cs ns : List Nat} (h : opLB G nm cs ns = true) : OpL G nm cs ns := by
  unfold opLB at h
  obtain ⟨h1, h2⟩ := He.ba h
  obtain ⟨h2, h3⟩ := He.ba h2
  refine ⟨fun c hc => ?_, fun t ht => ?_, fun d hd => ?_⟩
  · obtain ⟨a, b⟩ := He.ba (List.all_eq_true.mp h1 c hc)
    exact ⟨a, He.eqO_ok b⟩
  · exact He.ba (List.all_eq_true.mp h2 t ht)
  · exact List.all_eq_true.mp h3 d hd
theorem opT_of {G : Gb} {nm : String} {cs ns : List Nat} {tab : Nat → Option BM} (L : OpL G nm cs ns) (h : ∀ c, (tab c).isSome = true → c ∈ cs) : OpT G nm (fun d => ns.contains d) tab :=
  ⟨fun c hc => L.sf c (h c hc), L.ty, fun d hd => L.no d (List.contains_iff_mem.mp hd)⟩
end Mp
set_option Elab.async false
set_option linter.all false
set_option maxRecDepth 100000
set_option maxHeartbeats 4000000
/-! methods of own objects, called by name of their parameters -/
namespace Mp
open PySem PySem.Spec PyProof.Rows L2
@[simp] def eMeK (c np nk : Nat) (is : List Nat) (ds : List W) (f : BM) (fa : EM) (g gk : AM) : EM := fun ls S => (fa ls S).bind fun v S1 => match objV v S1 with
  | some (c', _) => if c' = c then (g ls S1).bind fun vs S2 => (gk ls S2).bind fun zs S3 => if vs.length = np ∧ zs.length = nk then f (pick is (v :: vs ++ (zs ++ ds))) S3 else .stuck else .stuck
  | none => .stuck
section
variable {X : Cx} {G : Gi} {Wx : WX} {a b e o : Expr} {fa : EM} {pos pos' p2 p apos : Pos} {es : List Expr} {fs fk : AM} {x m : Str} {k c : Nat} {g : Addr} {f : BM} {kws : List Keyword} {Q : VK}
theorem e_meK0 {N : Nat} {is : List Nat} {ds : List W} {dvs : List V} {fd : FuncData} {ps ks : List Str} {pl : Sem Bool} (rd : ∀ ρ H, RelWs G ρ H ds dvs) (hN : is.length = N) (hbd : ∀ i ∈ is, i < 1 + 0 + ks.length + ds.length)
    (tk : Takes X Wx) (hK : G.K = X.K) (hr : Rm k X.A) (cl : Cls G.K (G.cls c)) (nf : m ∉ G.flds c) (me : Meth G.K (G.cls c) m g) (F : FnO X.prog X.w X.K X.mg X.base (CX X.prog X.w) k g fd ps (spN G N f)) (hb : KAt X.K fd ps (0 + 1) ks is dvs)
    (ho : PE X o (upE G Wx fa)) (hk : PK X kws (upA G Wx fk))
    (hall : (backToKw pos (keywordEach kws X.env)).all (·.1.isSome) = true := by rfl) (hks : (backToKw pos (keywordEach kws X.env)).filterMap (·.1) = ks := by rfl)
    (hpl : ((backTo pos (starEach [] X.env)).any (·.1) || (backToKw pos (keywordEach kws X.env)).any (·.1.isNone)) = false := by rfl)
    (ht : eval (.Call (.Attribute o m apos) [] kws pos) X.env = (do
      let ov ← eval o X.env
      standAt apos.atName
      let (f, first) ← holding [ov] (getMethod ov m pl)
      callWith pos f first (backTo pos (starEach [] X.env)) (backToKw pos (keywordEach kws X.env))) := by rfl) :
    PE X (.Call (.Attribute o m apos) [] kws pos) (upE G Wx (eMeK c 0 ks.length is ds f fa aNil fk)) := by
  refine ⟨fun pins s σ H Q I ⟨ρ, ls, S, hs, hh, hp⟩ => ?_⟩
  rw [hK] at cl me
  refine PySem.W.methodCall_KW (pl := pl) (thn (ho.run pins s σ H (fun x H1 => ∃ ρ1 v S1, RelW G ρ1 H1 v x ∧ RelS G ρ1 H1 ls σ ∧ RelH G ρ1 H1 S1 ∧ Post G ρ1 H1 (match objV v S1 with | some (c', _) => if c' = c then (aNil ls S1).bind fun vs S2 => (fk ls S2).bind fun zs S3 => if vs.length = 0 ∧ zs.length = ks.length then f (pick is (v :: vs ++ (zs ++ ds))) S3 else .stuck else .stuck | none => .stuck) (QW G Q) fun c d H' => Wx c d σ H') I ⟨ρ, ls, S, hs, hh, (Post.bind hp).mono fun v S1 ρ1 H1 s1 h1 q x rx => ⟨ρ1, v, S1, rx, hs.step s1, h1, q⟩⟩) fun u s1 ⟨x, H1, I1, ru, ρ1, v, S1, rx, hs1, h1, q⟩ => ?_) ht
  cases q1 : objV v S1 with
  | none => rw [q1] at q; exact q.elim
  | some cf =>
    obtain ⟨c', fl⟩ := cf
    rw [q1] at q
    simp only at q
    by_cases hc : c' = c
    · rw [if_pos hc] at q
      subst hc
      obtain ⟨a, dx, xs, rfl, ea, hl, rs⟩ := rel_obj h1 rx q1
      obtain rfl : u = Value.ref a := ru
      refine getmeth_ok I1 ea cl me (lookup_zip_none nf) ?_
      have q : Post G ρ1 H1 ((fk ls S1).bind fun zs S3 => if ([] : List W).length = 0 ∧ zs.length = ks.length then f (pick is ([v] ++ (zs ++ ds))) S3 else .stuck) (QW G Q) (fun c d H' => Wx c d σ H') := q
      refine PySem.W.callWith_KW0 (first := [.ref a]) (h₀ := X.base) I1.ok.mod.kin me.kp hall (thn (hk.run pos pins s1 σ H1 (fun ys H2 => ∃ ρ2 zs S2, RelW G ρ2 H2 v (.ref a) ∧ RelWs G ρ2 H2 zs ys ∧ RelH G ρ2 H2 S2 ∧ Post G ρ2 H2 (if ([] : List W).length = 0 ∧ zs.length = ks.length then f (pick is ([v] ++ (zs ++ ds))) S2 else .stuck) (QW G Q) fun c d H' => Wx c d σ H') I1 ⟨ρ1, ls, S1, hs1, h1, (Post.bind q).mono fun zs S2 ρ2 H2 s2 h2 q2 ys rz => ⟨ρ2, zs, S2, rx.step s2, rz, h2, q2⟩⟩) fun ws s2 ⟨ys, H2, I2, r, ρ2, zs, S2, rx2, rz, h2, q2⟩ => ⟨I2.kIn, ?_⟩) hpl
      rw [hks]
      by_cases z : ([] : List W).length = 0 ∧ zs.length = ks.length
      · rw [if_pos z] at q2
        exact run_fnK (vs := [.ref a]) (us := [.ref a]) tk F hr hb I2 (.cons rfl .nil) r rfl (by rw [← rz.len]; exact z.2) (fnK_spec (np := 1) (nk := ks.length) rd hN (fun i hi => by have := hbd i hi; omega) (ws := [v]) (vs := [.ref a]) ⟨_, _, rfl, rx2, rfl⟩ rz h2 rfl z.2 q2)
      · rw [if_neg z] at q2; exact q2.elim
    · rw [if_neg hc] at q; exact q.elim
end
end Mp
set_option Elab.async false
set_option linter.all false
set_option maxRecDepth 100000
set_option maxHeartbeats 4000000
namespace Mp
open PySem PySem.Spec PyProof.Rows L2
/-! ### d[k], d a dict -/
@[simp] def keyW : W → Option Key
  | .int i => some (.inl i)
  | .str z => some (.inr z)
  | _ => none
def getK (kvs : List (Key × W)) (k : Key) : Option W := (kvs.find? fun kv => decide (kv.1 = k)).map (·.2)
@[simp] def ixD : W → W → M W := fun v u S => match v with
  | .loc l => match S[l]? with
    | some (.dct kvs) => match (keyW u).bind (getK kvs) with
      | some w => .ok w S
      | none => .stuck
    | _ => .stuck
  | _ => .stuck
section
variable {X : Cx} {G : Gi} {Wx : WX} {fa fb : EM} {a b e o : Expr} {pos p p2 apos : Pos} {fs fk : AM} {x m : Str} {k : Nat}
theorem ix_dct (hu : X.A.units + 1 < cLine) : IxR X (fun x y H Q => ∃ a v, x = .ref a ∧ DGet H a y (some v) ∧ Q v H) := by
  intro value slice pins s σ H x y v u Q I rx ry h hs
  obtain ⟨a, v0, rfl, g, q⟩ := h
  obtain rfl : v = Value.ref a := rx
  exact tail_any (dict_typeIs I g) slot_dict_getitem.lookup (d_getItem hu I g ry fun w' s3 I3 rw' => ⟨v0, H, I3, rw', q⟩) hs
theorem keyW_rel {ρ : Rho} {H : Hp} {w : W} {x : V} {kk : Key} (h : keyW w = some kk) (r : RelW G.toGb ρ H w x) : x = kV kk := by
  cases w <;> simp only [keyW] at h <;> cases h <;> cases r <;> rfl
theorem getK_rel {ρ : Rho} {H : Hp} {kk : Key} {w : W} : ∀ {kvs : List (Key × W)} {xs : List V}, RelWs G.toGb ρ H (kvs.map (·.2)) xs → getK kvs kk = some w → ∃ x, valV ((kvs.map (·.1)).zip xs) kk = some x ∧ RelW G.toGb ρ H w x
  | [], _, _, h => by cases h
  | (k1, w1) :: r, xs, ⟨y, ys, e, r1, r2⟩, h => by
    subst e
    by_cases z : k1 = kk
    · have : w1 = w := by
        unfold getK at h
        rw [List.find?_cons_of_pos (by simpa using z)] at h
        exact Option.some.inj h
      subst this
      exact ⟨y, by rw [List.map_cons, List.zip_cons_cons]; exact valV_pos z, r1⟩
    · have h' : getK r kk = some w := by
        unfold getK at h ⊢
        rwa [List.find?_cons_of_neg (by simpa using z)] at h
      obtain ⟨x, hx, rx⟩ := getK_rel r2 h'
      exact ⟨x, by rw [List.map_cons, List.zip_cons_cons, valV_neg z]; exact hx, rx⟩
theorem x_ixD (hu : X.A.units + 1 < cLine) : IxR X (upR G ixD) := by
  refine IxR.imp ?_ (ix_dct hu)
  rintro x y H Q ⟨ρ, v, u, S, rv, ru, hh, hp⟩
  cases v with
  | loc l =>
    simp only [ixD] at hp
    cases q1 : S[l]? with
    | none => rw [q1] at hp; exact hp.elim
    | some ob =>
      cases ob with
      | dct kvs =>
        rw [q1] at hp
        simp only at hp
        cases q2 : keyW u with
        | none => rw [q2] at hp; exact hp.elim
        | some kk =>
          rw [q2] at hp
          simp only [Option.bind_some] at hp
          cases q3 : getK kvs kk with
          | none => rw [q3] at hp; exact hp.elim
          | some w =>
            rw [q3] at hp
            obtain ⟨a, ea, rfl⟩ := rv
            obtain ⟨a', xs, e1, e2, el, r⟩ := hh.at_ l _ q1
            rw [ea] at e1; cases e1
            obtain ⟨z, hz, rz⟩ := getK_rel r q3
            exact ⟨a, z, rfl, by rw [keyW_rel q2 ru, ← hz]; exact DGet.k e2, hp ρ H .refl hh _ rz⟩
      | _ => rw [q1] at hp; exact hp.elim
  | _ => exact hp.elim
theorem x_ixE (hK : G.K = X.K) (hu : X.A.units + 1 < cLine) : IxR X (upR G (els ixW ixD)) := IxR.imp (fun x y H Q ⟨ρ, v, u, S, rv, ru, hh, hp⟩ => by
  simp only [els] at hp
  cases e : ixW v u S with
  | stuck => rw [e] at hp; exact .inr ⟨ρ, v, u, S, rv, ru, hh, hp⟩
  | ok w S1 => rw [e] at hp; exact .inl ⟨ρ, v, u, S, rv, ru, hh, by rw [e]; exact hp⟩
  | exc c fs S1 => rw [e] at hp; exact .inl ⟨ρ, v, u, S, rv, ru, hh, by rw [e]; exact hp⟩) (IxR.or (x_ix hK) (x_ixD hu))
theorem e_ixE (hK : G.K = X.K) (hu : X.A.units + 64 < cLine) (ha : PE X a (upE G Wx fa)) (hb : PE X b (upE G Wx fb)) (hs : PlainIx b) : PE X (.Subscript a b pos) (upE G Wx (bin (els ixW ixD) fa fb)) := PE.imp tOp_of (pe_ix (x_ixE hK (by omega)) ha hb hs)
/-! ### D[k], D a dict of the module -/
@[simp] def eKd (tab : List (Str × W)) (f : EM) : EM := fun ls S => (f ls S).bind fun v S1 => match v with
  | .str z => match tab.lookup z with
    | some w => .ok w S1
    | none => .stuck
  | _ => .stuck
structure VTab (K : PySem.W.Frag) (w : World) (d : Addr) (tab : List (Str × W)) : Prop where
  at_ : ∀ z u, tab.lookup z = some u → ∃ v, KDct K w d z v ∧ ∀ (G : Gb) ρ H, G.K = K → RelW G ρ H u v
theorem e_kd {d : Addr} {tab : List (Str × W)} (hK : G.K = X.K) (T : VTab X.K X.w d tab) (hg : Gl X x) (hm : X.mg x = some (.ref d)) (hb : PE X b (upE G Wx fb)) (hs : PlainIx b) (hd : (x == ("__debug__" : Str)) = false := by decide) :
    PE X (.Subscript (.Name x p) b pos) (upE G Wx (eKd tab fb)) :=
  PE.imp (fun σ H Q ⟨ρ, ls, S, hs, hh, hp⟩ => ⟨ρ, ls, S, hs, hh, (Post.bind hp).mono fun v S1 ρ1 H1 s1 h1 q y ry => by
    cases v with
    | str z =>
      simp only at q
      cases q1 : tab.lookup z with
      | none => rw [q1] at q; exact q.elim
      | some u =>
        rw [q1] at q
        cases ry
        obtain ⟨v0, kd, rel⟩ := T.at_ z u q1
        exact ⟨d, z, v0, rfl, rfl, kd, q ρ1 H1 .refl h1 _ (rel _ _ _ hK)⟩
    | _ => exact q.elim⟩) (pe_ix ix_kdict (pe_glob (v := .ref d) hg hm rfl hd) hb hs)
/-! ### dict([..]) of pairs -/
@[simp] def prsOf : List W → Option (List (Key × W))
  | [] => some []
  | .tup [kw, w] :: r => match keyW kw, prsOf r with
    | some kk, some l => some ((kk, w) :: l)
    | _, _ => none
  | _ :: _ => none
open Classical in
@[simp] noncomputable def dictP : W → M W := fun v S => match v with
  | .loc l => match (lstOf l S).bind prsOf with
    | some kvs => if (kvs.map (·.1)).Nodup then .ok (.loc S.length) (S ++ [.dct kvs]) else .stuck
    | none => .stuck
  | _ => .stuck
theorem merge_nodup : ∀ {kvs acc : List (Key × V)}, (kvs.map (·.1)).Nodup → (∀ p ∈ kvs, ∀ q ∈ acc, q.1 ≠ p.1) → mergeK acc kvs = acc ++ kvs
  | [], acc, _, _ => by unfold mergeK; simp
  | p :: r, acc, nd, h => by
    rw [List.map_cons, List.nodup_cons] at nd
    have e : putK acc p.1 p.2 = acc ++ [p] := by
      unfold putK
      have : (acc.any fun kv => decide (kv.1 = p.1)) = false := by
        rw [List.any_eq_false]
        intro q hq
        simpa using h p List.mem_cons_self q hq
      rw [this]; simp
    show mergeK (putK acc p.1 p.2) r = _
    rw [e, merge_nodup nd.2, List.append_assoc]; rfl
    intro p' hp' q hq
    rcases List.mem_append.mp hq with hq | hq
    · exact h p' (List.mem_cons_of_mem _ hp') q hq
    · simp only [List.mem_cons, List.not_mem_nil, or_false] at hq
      subst hq
      intro z
      exact nd.1 (List.mem_map.mpr ⟨p', hp', z.symm⟩)
theorem prs_rel {ρ : Rho} {H : Hp} (hK : G.K = X.K) : ∀ {ws : List W} {xs : List V} {kvs : List (Key × W)}, RelWs G.toGb ρ H ws xs → prsOf ws = some kvs →
    ∃ (ps : List Addr) (us : List V), xs = ps.map V.ref ∧ us.length = kvs.length ∧ RelWs G.toGb ρ H (kvs.map (·.2)) us ∧ Paired (fun p kv => SqT X.K H p [kV kv.1, kv.2]) ps ((kvs.map (·.1)).zip us)
  | [], xs, kvs, r, h => by
    cases h
    have : xs = [] := r
    subst this
    exact ⟨[], [], rfl, rfl, rfl, .nil⟩
  | w0 :: r, xs, kvs, ⟨y, ys, e, r1, r2⟩, h => by
    subst e
    cases w0 with
    | tup zs =>
      match zs, h, r1 with
      | [kw, w], h, r1 =>
        simp only [prsOf] at h
        cases q1 : keyW kw with
        | none => rw [q1] at h; simp at h
        | some kk =>
          cases q2 : prsOf r with
          | none => rw [q1, q2] at h; simp at h
          | some l =>
            rw [q1, q2] at h
            cases h
            obtain ⟨ps, us, rfl, e2, e3, e4⟩ := prs_rel hK r2 q2
            obtain ⟨a, zs, rfl, t1, z1⟩ := r1
            obtain ⟨y1, zs1, rfl, ry1, z2⟩ := z1
            obtain ⟨y2, zs2, rfl, ry2, z3⟩ := z2
            have : zs2 = [] := z3
            subst this
            refine ⟨a :: ps, y2 :: us, rfl, by simp [e2], ⟨_, _, rfl, ry2, e3⟩, ?_⟩
            rw [List.map_cons, List.zip_cons_cons]
            exact .cons (by rw [← keyW_rel q1 ry1, ← hK]; exact t1.sq) e4
      | [], h, _ => simp [prsOf] at h
      | [_], h, _ => simp [prsOf] at h
      | _ :: _ :: _ :: _, h, _ => simp [prsOf] at h
    | _ => simp [prsOf] at h
theorem zip_fst' {α β : Type} : ∀ (l : List α) (m : List β), l.length = m.length → (l.zip m).map (·.1) = l
  | [], _, _ => rfl
  | a :: l, [], h => by simp at h
  | a :: l, b :: m, h => by
    rw [List.zip_cons_cons, List.map_cons, zip_fst' l m (by simpa using h)]
theorem c_dictP (hK : G.K = X.K) (hc : X.calm = true) : CallR X (.type "dict") (upC G (b1 dictP)) := by
  refine c_b1 (CallR.imp ?_ (call_dictP hc))
  rintro xs H Q ⟨x, rfl, ρ, v, S, rv, hh, hp⟩
  cases v with
  | loc l =>
    simp only [dictP] at hp
    cases q1 : (lstOf l S).bind prsOf with
    | none => rw [q1] at hp; exact hp.elim
    | some kvs =>
      rw [q1] at hp
      simp only at hp
      obtain ⟨ws, h1, h2⟩ := bind_some q1
      obtain ⟨a, xs, rfl, _, e1, r1⟩ := rel_lst hh rv (lstOf_eq h1)
      obtain ⟨ps, us, rfl, e2, e3, e4⟩ := prs_rel hK r1 h2
      by_cases nd : (kvs.map (·.1)).Nodup
      · rw [if_pos nd] at hp
        have hl : (kvs.map (·.1)).length = us.length := by rw [List.length_map, e2]
        refine ⟨a, ps, _, rfl, .of e1, e4, fun p np => ?_⟩
        have em : mergeK [] ((kvs.map (·.1)).zip us) = (kvs.map (·.1)).zip us := by
          rw [merge_nodup (by rw [zip_fst' _ _ hl]; exact nd) (fun _ _ q hq => absurd hq (List.not_mem_nil))]; rfl
        rw [em]
        have st := Step.new_ (o := .dK ((kvs.map (·.1)).zip us)) hh np
        exact hp _ _ st (hh.new_ np ⟨p, us, ext_same, upd_same, e2, e3.step st⟩) _ ⟨p, ext_same, rfl⟩
      · rw [if_neg nd] at hp; exact hp.elim
  | _ => exact hp.elim
/-! ### zip of two lists -/
theorem RelIt.ofZ {ρ H l m a b} (hK : G.K = X.K) (e : ρ l = some a) (e' : ρ m = some b) : RelIt G ρ H (.zip l m) (Itz X.K a b) := fun ρ' H' S' t hh i => by
  simp only [itNext]
  cases q : S'[l]? with
  | none => trivial
  | some ob =>
    cases ob with
    | lst ws =>
      cases q' : S'[m]? with
      | none => trivial
      | some ob' =>
        cases ob' with
        | lst us =>
          obtain ⟨a', xs, e1, e2, r⟩ := hh.lst q
          rw [t.sub l a e] at e1; cases e1
          obtain ⟨b', ys, f1, f2, r'⟩ := hh.lst q'
          rw [t.sub m b e'] at f1; cases f1
          simp only
          cases g1 : ws[i]? with
          | none => exact ⟨xs, ys, .of e2, .of f2, .inl (by rw [← r.len]; exact List.getElem?_eq_none_iff.mp g1)⟩
          | some w =>
            cases g2 : us[i]? with
            | none => exact ⟨xs, ys, .of e2, .of f2, .inr (by rw [← r'.len]; exact List.getElem?_eq_none_iff.mp g2)⟩
            | some u =>
              obtain ⟨x, hx, rx⟩ := r.get g1
              obtain ⟨y, hy, ry⟩ := r'.get g2
              refine ⟨⟨xs, ys, x, y, .of e2, .of f2, hx, hy⟩, fun z H'' ⟨T, x', y', ez, hT, eH, hxs, hys⟩ => ?_⟩
              subst ez eH
              have h1 := hxs xs (.of e2)
              rw [hx] at h1; cases h1
              have h2 := hys ys (.of f2)
              rw [hy] at h2; cases h2
              exact ⟨Step.lay hT, hh.lay hT, tup_new (ws := [w, u]) (xs := [x, y]) hh hT ⟨_, _, rfl, rx, _, _, rfl, ry, rfl⟩⟩
        | _ => trivial
    | _ => trivial
@[simp] def iZp (f : AM) : LSt → M ItW := fun ls S => (f ls S).bind fun vs S1 => match vs with
  | [.loc l, .loc m] => match S1[l]?, S1[m]? with
    | some (.lst _), some (.lst _) => .ok (.zip l m) S1
    | _, _ => .stuck
  | _ => .stuck
theorem i_zip {elts : List Expr} {kk : Nat} {tpos : Pos} {e2 : Expr} (hK : G.K = X.K) (hg : Gl X "zip") (hm : X.mg "zip" = none) (ha : PA X [e, e2] (upA G Wx fs))
    (hs : starEach [e, e2] X.env = (false, eval e X.env) :: starEach [e2] X.env := by rfl) (hpl : (backTo pos (starEach [e2] X.env)).any (·.1) = false := by rfl) :
    PI X (.Tuple elts kk tpos) (.Call (.Name "zip" p) [e, e2] [] pos) (upI G Wx (iZp fs)) := by
  refine PI.imp ?_ (RZ.pi_zipA hg hm ha hs hpl)
  rintro σ H R ⟨ρ, ls, S, hs, hh, hp⟩
  refine ⟨ρ, ls, S, hs, hh, (Post.bind hp).mono fun vs S1 ρ1 H1 s1 h1 q xs rs => ?_⟩
  match vs, q, rs with
  | [.loc l, .loc m], q, rs =>
    simp only at q
    cases q1 : S1[l]? with
    | none => rw [q1] at q; exact q.elim
    | some ob =>
      cases ob with
      | lst ws =>
        cases q2 : S1[m]? with
        | none => rw [q1, q2] at q; exact q.elim
        | some ob' =>
          cases ob' with
          | lst us =>
            rw [q1, q2] at q
            obtain ⟨y, ys, rfl, r1, r2⟩ := rs
            obtain ⟨y2, ys2, rfl, r3, r4⟩ := r2
            have : ys2 = [] := r4
            subst this
            obtain ⟨a, xs, rfl, ea, e1, _⟩ := rel_lst h1 r1 q1
            obtain ⟨b, zs, rfl, eb, e2, _⟩ := rel_lst h1 r3 q2
            exact ⟨a, b, xs, zs, rfl, .inl ⟨.of e1, .of e2, q ρ1 H1 .refl h1 _ (RelIt.ofZ hK ea eb)⟩⟩
          | _ => rw [q1, q2] at q; exact q.elim
      | _ => rw [q1] at q; exact q.elim
/-! ### methods by keyword, of several classes -/
def MkOk (P : Program) (w : World) (mg : Str → Option Value) (base : Heap) (G : Gi) (k : Nat) (m : Str) (ks : List Str) (is : List Nat) (c : Nat) : Option BM → Prop
  | some g => Cls G.K (G.cls c) ∧ m ∉ G.flds c ∧ ∃ a fd ps, Meth G.K (G.cls c) m a ∧ FnO P w G.K mg base (CX P w) k a fd ps (spN G is.length g) ∧ KAt G.K fd ps 1 ks is []
  | none => True
@[simp] def eMeKt (tab : Nat → Option BM) (nk : Nat) (is : List Nat) (f : EM) (gk : AM) : EM := fun ls S => (f ls S).bind fun v S1 => match meV tab v S1 with
  | some h => (gk ls S1).bind fun zs S2 => if zs.length = nk then h (pick is (v :: zs)) S2 else .stuck
  | none => .stuck
theorem e_meKt {tab : Nat → Option BM} {is : List Nat} {ks : List Str} {kws : List Keyword} {pl : Sem Bool} (hbd : ∀ i ∈ is, i < 1 + ks.length) (tk : Takes X Wx) (hK : G.K = X.K) (hr : Rm k X.A) (T : ∀ c, MkOk X.prog X.w X.mg X.base G k m ks is c (tab c))
    (ho : PE X o (upE G Wx fa)) (hk : PK X kws (upA G Wx fk))
    (hall : (backToKw pos (keywordEach kws X.env)).all (·.1.isSome) = true := by rfl) (hks : (backToKw pos (keywordEach kws X.env)).filterMap (·.1) = ks := by rfl)
    (hpl : ((backTo pos (starEach [] X.env)).any (·.1) || (backToKw pos (keywordEach kws X.env)).any (·.1.isNone)) = false := by rfl)
    (ht : eval (.Call (.Attribute o m apos) [] kws pos) X.env = (do
      let ov ← eval o X.env
      standAt apos.atName
      let (f, first) ← holding [ov] (getMethod ov m pl)
      callWith pos f first (backTo pos (starEach [] X.env)) (backToKw pos (keywordEach kws X.env))) := by rfl) :
    PE X (.Call (.Attribute o m apos) [] kws pos) (upE G Wx (eMeKt tab ks.length is fa fk)) := by
  refine ⟨fun pins s σ H Q I ⟨ρ, ls, S, hs, hh, hp⟩ => ?_⟩
  refine PySem.W.methodCall_KW (pl := pl) (thn (ho.run pins s σ H (fun x H1 => ∃ ρ1 v S1, RelW G ρ1 H1 v x ∧ RelS G ρ1 H1 ls σ ∧ RelH G ρ1 H1 S1 ∧ Post G ρ1 H1 (match meV tab v S1 with | some h => (fk ls S1).bind fun zs S2 => if zs.length = ks.length then h (pick is (v :: zs)) S2 else .stuck | none => .stuck) (QW G Q) fun c d H' => Wx c d σ H') I ⟨ρ, ls, S, hs, hh, (Post.bind hp).mono fun v S1 ρ1 H1 s1 h1 q x rx => ⟨ρ1, v, S1, rx, hs.step s1, h1, q⟩⟩) fun u s1 ⟨x, H1, I1, ru, ρ1, v, S1, rx, hs1, h1, q⟩ => ?_) ht
  simp only [meV] at q
  cases q1 : objV v S1 with
  | none => rw [q1] at q; exact q.elim
  | some cf =>
    obtain ⟨c, fl⟩ := cf
    rw [q1] at q
    obtain ⟨a, dx, xs, rfl, ea, hl, rs⟩ := rel_obj h1 rx q1
    obtain rfl : u = Value.ref a := ru
    have Tc := T c
    simp only at q
    cases q2 : tab c with
    | none => rw [q2] at q; exact q.elim
    | some g =>
      rw [q2] at q Tc
      obtain ⟨cl, nf, fa', fd, ps, me, F, hb⟩ := Tc
      rw [hK] at cl me F hb
      refine getmeth_ok I1 ea cl me (lookup_zip_none nf) ?_
      refine PySem.W.callWith_KW0 (first := [.ref a]) (h₀ := X.base) I1.ok.mod.kin me.kp hall (thn (hk.run pos pins s1 σ H1 (fun ys H2 => ∃ ρ2 zs S2, RelW G ρ2 H2 v (.ref a) ∧ RelWs G ρ2 H2 zs ys ∧ RelH G ρ2 H2 S2 ∧ Post G ρ2 H2 (if zs.length = ks.length then g (pick is (v :: zs)) S2 else .stuck) (QW G Q) fun c d H' => Wx c d σ H') I1 ⟨ρ1, ls, S1, hs1, h1, (Post.bind q).mono fun zs S2 ρ2 H2 s2 h2 q2 ys rz => ⟨ρ2, zs, S2, rx.step s2, rz, h2, q2⟩⟩) fun ws s2 ⟨ys, H2, I2, r, ρ2, zs, S2, rx2, rz, h2, q2⟩ => ⟨I2.kIn, ?_⟩) hpl
      rw [hks]
      by_cases z : zs.length = ks.length
      · rw [if_pos z] at q2
        have q3 : Post G ρ2 H2 (g (pick is ([v] ++ (zs ++ []))) S2) (QW G Q) (fun c d H' => Wx c d σ H') := by
          rw [List.append_nil]; exact q2
        exact run_fnK (vs := [.ref a]) (us := [.ref a]) tk F hr hb I2 (.cons rfl .nil) r rfl (by rw [← rz.len]; exact z) (fnK_spec (np := 1) (nk := ks.length) (ds := []) (dvs := []) (fun _ _ => rfl) rfl (fun i hi => by have := hbd i hi; simp only [List.length_nil]; omega) (ws := [v]) (vs := [.ref a]) ⟨_, _, rfl, rx2, rfl⟩ rz h2 rfl z q3)
      · rw [if_neg z] at q2; exact q2.elim
end
end Mp
namespace Mp
open PySem PySem.Spec PyProof.Rows L2
open He (ga ma eqO_ok ba)
/-! ### their facts as Bools -/
def tupAB (K : PySem.W.Frag) (t : Addr) (ws : List W) : Bool := match wvs ws, K.lookup t with
  | some vs, some ⟨.type c, _, .seq its _, _⟩ => decide (c = "tuple") && (decide (its.size ≤ sizeLine) && He.relAll vs its.toList)
  | _, _ => false
def vtB (K : PySem.W.Frag) (d : Addr) (tab : List (Str × W)) : Bool := tab.all fun p => match PySem.W.nsIn K d p.1, p.2 with
  | some (some (.ref t)), .tup ws => tupAB K t ws
  | _, _ => false
theorem lookup_mem {z : Str} {u : W} : ∀ {tab : List (Str × W)}, tab.lookup z = some u → (z, u) ∈ tab
  | (y, w) :: r, h => by
    rw [List.lookup_cons] at h
    by_cases e : z = y
    · subst e
      simp at h
      subst h
      exact List.mem_cons_self
    · have : (z == y) = false := beq_eq_false_iff_ne.mpr e
      rw [this] at h
      exact List.mem_cons_of_mem _ (lookup_mem h)
theorem vtB_ok {K : PySem.W.Frag} {w : World} {d : Addr} {tab : List (Str × W)} {ks : List (Option (Str × Int))} (D : ∃ es n, KDict K w d es n ∧ es.toList.map He.keyOf = ks) (c : vtB K d tab = true) : VTab K w d tab := by
  obtain ⟨es, n, kd, _⟩ := D
  refine ⟨fun z u e => ?_⟩
  have h := List.all_eq_true.mp c _ (lookup_mem e)
  dsimp only at h
  cases e1 : PySem.W.nsIn K d z with
  | none => rw [e1] at h; cases h
  | some o =>
  cases o with
  | none => rw [e1] at h; cases h
  | some v0 =>
  cases v0 with
  | ref t =>
    cases u with
    | tup ws =>
      rw [e1] at h
      dsimp only at h
      unfold tupAB at h
      split at h
      · rename_i vs cl od its n' sl f1 f2
        obtain ⟨z1, z2⟩ := ba h
        obtain ⟨z3, z4⟩ := ba z2
        refine ⟨.ref t, ⟨es, n, .ref t, kd.at_, kd.lit, e1, rfl⟩, fun G ρ H hG => ?_⟩
        exact ⟨t, vs, rfl, .inr (by rw [hG]; exact ⟨_, its, n', f2, congrArg Value.type (dk z1), rfl, dk z3, He.relAll_ok z4⟩), wvs_ok G ρ H f1⟩
      · cases h
    | _ => rw [e1] at h; cases h
  | _ => rw [e1] at h; cases h
end Mp
set_option Elab.async false
set_option linter.all false
set_option maxRecDepth 100000
set_option maxHeartbeats 4000000
namespace Mp
open PySem PySem.Spec PyProof.Rows L2
/-! ### len(set(..)) of any ints -/
def cnt1 (ns : List Int) : Nat := (firstMet (fun i => ns.getD i 0) ns.length).length
theorem dedup_le : ∀ (l acc : List Int), (l.foldl step_dedup acc).length ≤ acc.length + l.length
  | [], acc => by simp
  | x :: l, acc => by
    have h := dedup_le l (step_dedup acc x)
    have h2 : (step_dedup acc x).length ≤ acc.length + 1 := by
      unfold step_dedup
      split <;> simp
    simp only [List.foldl_cons, List.length_cons]
    omega
theorem cnt1_le (ns : List Int) : cnt1 ns ≤ ns.length := by
  unfold cnt1 firstMet
  have h := dedup_le ((List.range ns.length).map fun i => ns.getD i 0) []
  simp only [List.length_nil, List.length_map, List.length_range, Nat.zero_add] at h
  exact h
def tLenSetA (K : PySem.W.Frag) (ta : TE) : TE := fun σ H Q => ta σ H fun x H1 => ∃ (l : Addr) (ns : List Int), x = .ref l ∧ SqL K H1 l (ns.map V.int) ∧ ns.length ≤ 4000 ∧ Q (.int (cnt1 ns : Nat)) H1
/-- u is a set of n numbers -/
def Sized (X : Cx) (u : Value) (n : Nat) (h : Heap) : Prop := ∃ a S, u = .ref a ∧ h.SetOf (intKind X.prog X.w) a S n
section
variable {X : Cx} {pins : List (Addr × Obj)} {σ : L2.St} {H : Hp} {s : Shared}
theorem ints_set {l : Addr} {ns : List Int} {Q : Value → Shared → Prop} (I : Inv X pins σ H s) (hc : X.calm = true) (sq : SqL X.K H l (ns.map V.int)) (few : ns.length ≤ 4000) (k : ∀ u s', Sized X u (cnt1 ns) s'.heap → Inv X pins σ H s' → Q u s') :
    wpAny (model X.prog X.w) X.A (call (.type "set") [.ref l]) Q X.xe s := by
  have ⟨its, r, at_, _⟩ := I.list sq
  have len : its.toArray.size = ns.length := by simp [← r.length]
  exact call_set_list (I.ok.hd hc) at_.isList (by simpa using RZ.intsAre_vals r) (by unfold scanBound; omega) fun h' tk made keep =>
    k _ _ ⟨_, _, rfl, by rw [len] at made; exact made⟩ (I.kept fun b o e => keep b o (Heap.lt_size e) e)
theorem len_sized {u : Value} {n : Nat} {Q : VK} (I : Inv X pins σ H s) (few : n ≤ 4000) (q : Q (.int n) H) : Sized X u n s.heap → wpAny (model X.prog X.w) X.A (call (.builtin "len") [u]) (EP X pins σ Q) X.xe s
  | ⟨a, S, e, o, es, ep, t, at_, ex, dt, _, _, _, fits, size⟩ => e ▸ call_len_set at_ ex dt fits (by rw [size]; omega) ⟨.int n, H, I.tok _, ⟨_, by rw [size]⟩, q⟩
end
theorem pe_lenSetA {X : Cx} {a : Expr} {ta : TE} {p p2 q pos : Pos} (hg : Gl X "len") (hm : X.mg "len" = none) (hg2 : Gl X "set") (hm2 : X.mg "set" = none) (ha : PE X a ta) (hc : X.calm = true := by rfl)
    (na : starEach [a] X.env = (false, eval a X.env) :: starEach [] X.env := by rfl) : PE X (.Call (.Name "len" p) [.Call (.Name "set" p2) [a] [] q] [] pos) (tLenSetA X.K ta) := by
  refine ⟨fun pins s σ H Q I h => Call_ (ld_blt I hg hm boot_len (PyProof.Rows.callWith_builtin1 (PyProof.Rows.args_cons (Call_ (ld_blt I hg2 hm2 boot_set (PyProof.Rows.callWith_type1 (PyProof.Rows.args_cons
    (thn (ha.run pins s σ H _ I h) fun v s1 ⟨x, H1, J, rx, q⟩ => PyProof.Rows.args_nil ?_) na) na rfl))) rfl) rfl rfl))⟩
  obtain ⟨l, ns, rfl, sq, few, q⟩ := q
  cases rx
  exact ints_set J hc sq few fun u s2 sz J2 => PyProof.Rows.args_nil (len_sized J2 (Nat.le_trans (cnt1_le ns) few) q sz)
@[simp] def eLsA (fa : EM) : EM := fun ls S => (fa ls S).bind fun v S1 => match v with
  | .loc l => match lstOf l S1 with
    | some ws => match asInts ws with
      | some ns => if ns.length ≤ 4000 then .ok (W.int (cnt1 ns : Nat)) S1 else .stuck
      | none => .stuck
    | none => .stuck
  | _ => .stuck
section
variable {X : Cx} {G : Gi} {Wx : WX} {a : Expr} {fa : EM} {p p2 q pos : Pos}
theorem e_lenSetA (hK : G.K = X.K) (hg : Gl X "len") (hm : X.mg "len" = none) (hg2 : Gl X "set") (hm2 : X.mg "set" = none) (ha : PE X a (upE G Wx fa)) (hc : X.calm = true := by rfl)
    (na : starEach [a] X.env = (false, eval a X.env) :: starEach [] X.env := by rfl) : PE X (.Call (.Name "len" p) [.Call (.Name "set" p2) [a] [] q] [] pos) (upE G Wx (eLsA fa)) := by
  refine PE.imp ?_ (pe_lenSetA hg hm hg2 hm2 ha hc na)
  rintro σ H Q ⟨ρ, ls, S, hs, hh, hp⟩
  refine ⟨ρ, ls, S, hs, hh, (Post.bind hp).mono fun v S1 ρ1 H1 s1 h1 q x rx => ?_⟩
  cases v with
  | loc l =>
    have q : Post G ρ1 H1 (match lstOf l S1 with
      | some ws => match asInts ws with
        | some ns => if ns.length ≤ 4000 then Res.ok (W.int (cnt1 ns : Nat)) S1 else .stuck
        | none => .stuck
      | none => .stuck) _ _ := q
    cases hl : lstOf l S1 with
    | none => rw [hl] at q; exact q.elim
    | some ws =>
      rw [hl] at q
      simp only at q
      cases hi : asInts ws with
      | none => rw [hi] at q; exact q.elim
      | some ns =>
        rw [hi] at q
        simp only at q
        by_cases z : ns.length ≤ 4000
        · rw [if_pos z] at q
          obtain ⟨b, xs, rfl, _, e1, r1⟩ := rel_lst h1 rx (lstOf_eq hl)
          have e := asInts_rel r1 hi
          subst e
          exact ⟨b, ns, rfl, .of e1, z, q ρ1 H1 .refl h1 _ rfl⟩
        · rw [if_neg z] at q; exact q.elim
  | _ => exact q.elim
end
/-! ### isinstance(error, ValueError) -/
@[simp] def isiV (z : String) (xc : Nat → Bool) (vx : Nat → Bool) : BM := fun vs S => match vs with
  | [.exc c _, .ty t] => if xc c = true ∧ t = z then .ok (.bl (vx c)) S else .stuck
  | _ => .stuck
section
variable {X : Cx} {G : Gi}
theorem c_isiV {n : Nat} {sub : Nat → Nat → Bool} {xc vx : Nat → Bool} {z : String} (hK : G.K = X.K) (TX : ∀ c, xc c = true → XcF G c) (TV : ∀ c, xc c = true → PySem.W.kitOne G.K (.ref (G.cls c)) (.type z) = some (vx c)) : CallR X (.builtin "isinstance") (upC G (isiV z xc vx)) := by
  rintro pins s σ H xs us Q I r ⟨ρ, vs, S, rv, hh, hp⟩
  match vs, hp, rv with
  | [.exc c fs, .ty t], hp, rv =>
    have hq : Post G ρ H (if xc c = true ∧ t = z then Res.ok (.bl (vx c)) S else .stuck) (QW G Q) NoE := hp
    by_cases q : xc c = true ∧ t = z
    · rw [if_pos q] at hq
      obtain ⟨q1, q2⟩ := q
      subst q2
      obtain ⟨x, y, rfl, r1, r2⟩ := rel2 rv
      obtain ⟨w1, w2, rfl, rx, ry⟩ := vals2 r
      cases r2
      obtain rfl : w2 = Value.type t := ry
      obtain ⟨a, ox, od, rfl, J, _⟩ := exc_inst I r1
      obtain rfl : w1 = Value.ref a := rx
      have C := (TX c q1).ec
      have hk := TV c q1
      rw [hK] at C hk
      exact PySem.W.kia_one (PySem.W.kitx_exc (PySem.W.mp_there C.hd) C.hg C.hk C.hs C.ha C.hn C.ht C.hm) I.kIn J hk (fun z => nomatch z) fun tk => ⟨.bl (vx c), H, I.tok tk, rfl, hq ρ H .refl hh _ rfl⟩
    · rw [if_neg q] at hq; exact hq.elim
end
end Mp
set_option Elab.async false
set_option linter.all false
set_option maxRecDepth 100000
set_option maxHeartbeats 4000000
namespace Mp
open PySem PySem.Spec PyProof.Rows L2
/-! ### the top's run looked at in two halves -/
theorem obT_two {exs : List (PySem.W.Frag → Bool)} {fns : List Fd} {tf : List Ct} {ds : List Tb} {g : Addr → Option Obj} {K : PySem.W.Frag} {w : World} (i j : Nat)
    (h1 : obT (fun K => (exs.take i).all fun f => f K) (fns.take j) tf ds g K = vlT (fns.take j) ds w) (h2 : obT (fun K => (exs.drop i).all fun f => f K) (fns.drop j) [] [] g K = vlT (fns.drop j) [] w) :
    obT (fun K => exs.all fun f => f K) fns tf ds g K = vlT fns ds w := by
  have a1 : (((exs.take i).all fun f => f K) && (((fns.take j).all fun d => d.okB K) && tabsM g tf K)) = true := congrArg (fun z => z.1.1) h1
  have a2 : (fns.take j).map (fun d => fwAt K (d.at_ K)) = (fns.take j).map Fd.val := congrArg (fun z => z.1.2) h1
  have a3 : (ds.map fun t => He.dicW K (t.1 K)) = ds.map fun t => some (He.keysIn w.params t.2) := congrArg (fun z => z.2) h1
  have b1 : (((exs.drop i).all fun f => f K) && (((fns.drop j).all fun d => d.okB K) && tabsM g [] K)) = true := congrArg (fun z => z.1.1) h2
  have b2 : (fns.drop j).map (fun d => fwAt K (d.at_ K)) = (fns.drop j).map Fd.val := congrArg (fun z => z.1.2) h2
  simp only [Bool.and_eq_true] at a1 b1
  obtain ⟨p1, p2, p3⟩ := a1
  obtain ⟨q1, q2, _⟩ := b1
  have e1 : exs.all (fun f => f K) = true := by
    rw [← List.take_append_drop i exs, List.all_append, p1, q1]; rfl
  have e2 : fns.all (fun d => d.okB K) = true := by
    rw [← List.take_append_drop j fns, List.all_append, p2, q2]; rfl
  have e3 : fns.map (fun d => fwAt K (d.at_ K)) = fns.map Fd.val := by
    conv => lhs; rw [← List.take_append_drop j fns]
    conv => rhs; rw [← List.take_append_drop j fns]
    rw [List.map_append, List.map_append, a2, b2]
  unfold obT vlT obM vlM
  rw [a3, e3]
  simp only [e1, e2, p3, Bool.and_true]
theorem run_two {r : PySem.W.OpenRow} {q : Program} {n M : Nat} {loose : List Str} {w w0 : World} {exs : List (PySem.W.Frag → Bool)} {fns : List Fd} {tf : List Ct} {ds : List Tb} (i j : Nat)
    (h1 : HandSHeadRun.RunEq r q (hookT n (fun K => (exs.take i).all fun f => f K) (fns.take j) tf ds) (fun s => obTG n (fun K => (exs.take i).all fun f => f K) (fns.take j) tf ds (HandSHeadRun.getT s)) M loose w)
    (h2 : HandSHeadRun.RunEq r q (hookT n (fun K => (exs.drop i).all fun f => f K) (fns.drop j) [] []) (fun s => obTG n (fun K => (exs.drop i).all fun f => f K) (fns.drop j) [] [] (HandSHeadRun.getT s)) M loose w) :
    HandSHeadRun.RunEq r q (hookT n (fun K => exs.all fun f => f K) fns tf ds) (fun s => obTG n (fun K => exs.all fun f => f K) fns tf ds (HandSHeadRun.getT s)) M loose w := by
  intro os
  have a := h1 os
  have b := h2 os
  revert a b
  generalize HandSHeadRun.endF _ M r.prog w os = z
  intro a b
  cases z with
  | none => cases a
  | some s =>
    simp only [Option.map_some] at a b ⊢
    have a := Option.some.inj a
    have b := Option.some.inj b
    have a1 := congrArg (fun z => z.1) a
    have a2 := congrArg (fun z => z.2.1) a
    have a3 := congrArg (fun z => z.2.2) a
    have b3 := congrArg (fun z => z.2.2) b
    simp only at a1 a2 a3 b3
    rw [a1, a2]
    exact congrArg (fun z => some (true, _, z)) (obT_two i j a3 b3)
end Mp
set_option Elab.async false
set_option linter.all false
set_option maxRecDepth 100000
set_option maxHeartbeats 4000000
namespace Mp
open PySem PySem.Spec PyProof.Rows L2
/-! ### own objects that are walked: __iter__ hands out the iterator of a tuple -/
/-- the iterator of the tuple at t, at its beginning -/
def TtO (t it : Addr) : HO := .ext fun h => h.get? it = some { cls := .type "tuple_iterator", data := .fields #[.ref t, .int 0 0] }
theorem ttO_ok {P : Program} {w : World} {H : Hp} {h : Heap} {t it : Addr} (e : h.get? it = some { cls := .type "tuple_iterator", data := .fields #[.ref t, .int 0 0] }) : ObjOk P w H h it (TtO t it) := ⟨e, ⟨_, e⟩, fun h1 h2 q k => k _ q⟩
theorem ttO_get {X : Cx} {pins : List (Addr × Obj)} {σ : L2.St} {H : Hp} {s : Shared} {t it : Addr} (I : Inv X pins σ H s) (e : H it = some (TtO t it)) : s.heap.get? it = some { cls := .type "tuple_iterator", data := .fields #[.ref t, .int 0 0] } := (I.hok it _ e).1
section
variable {prog : Program} {w : World} {A : Around} {E : Value → Shared → Prop} {s : Shared} {t : Addr} {items : Array Value}
theorem call_iterT {Q : Value → Shared → Prop} (ht : s.heap.IsTuple t items) (h : Q (.ref s.heap.objs.size) { s with heap := s.heap.push { cls := .type "tuple_iterator", data := .fields #[.ref t, .int 0 0] } }) : wpAny (model prog w) A (call (.builtin "iter") [.ref t]) Q E s := by
  refine Calls.call_function_entry (by decide +kernel) (by decide +kernel) PySem.W.kdk_entry_iter (PySem.W.kdk_args_iter _) ?_
  unfold Builtin.«iter»
  refine wpAny_bind (m := someArgs "iter" 1 2 _) (wpAny_of_eq (a := [Value.ref t]) (by first | rfl | kernel_rfl!) ?_)
  show wpAny _ _ (pyIter (.ref t) >>= _) _ _ _
  refine wpAny_bind (wpAny_pyIter_tuple ht ?_)
  exact wpAny_pure ⟨_, rfl, h⟩
end
def rIterT (K : PySem.W.Frag) (n : Nat) : List V → Hp → VK → Prop := fun xs H Q => ∃ (t : Addr) (zs : List V), xs = [.ref t] ∧ SqT K H t zs ∧ ∀ it, H it = Option.none → n ≤ it → Q (.ref it) (upd H it (TtO t it))
theorem callR_iterT {X : Cx} : CallR X (.builtin "iter") (rIterT X.K X.s_0.heap.objs.size) := by
  intro pins s σ H xs us Q I r h
  obtain ⟨t, zs, rfl, hq, q⟩ := h
  obtain ⟨u, rfl, ru⟩ := vals1 r
  cases ru
  obtain ⟨its, rv, pl, hz⟩ := I.tuple hq
  refine call_iterT (show s.heap.IsTuple t its.toArray from pl) ?_
  exact ⟨.ref s.heap.objs.size, _, I.laid (t' := s.toks) (fun b u e => Heap.get?_push_of_some _ e) (Nat.le_refl _) (ttO_ok (Heap.get?_push_size _ rfl)), rfl, q _ (I.hok.fresh (Nat.le_refl _)) I.sz⟩
/-- what a def that hands out a tuple's iterator promises: g tells the tuple -/
def spIt (n : Nat) (G : Gi) (g : BM) : Sp := fun vs H Q E => ∃ ρ ws S, RelWs G ρ H ws vs ∧ RelH G ρ H S ∧ ws.length = 1 ∧ Post G ρ H (g ws S) (fun v S1 ρ1 H1 => ∃ us, v = .tup us ∧ ∀ t, RelW G ρ1 H1 (.tup us) (.ref t) → ∀ it, H1 it = Option.none → n ≤ it → Q (.ref it) (upd H1 it (TtO t it))) E
def FnIt (P : Program) (w : World) (K : PySem.W.Frag) (mg : Str → Option Value) (base : Heap) (CX : CXT) (k : Nat) (f : Addr) (G : Gi) (g : BM) : Prop :=
  ∀ (A : Around) (outer : List Env) (s : Shared) (H : Hp) (us : List Value) (vs : List V) (Q : VK) (E : XK), Rm k A → Env0 P w K mg base A outer s H → Vals vs us → spIt s.heap.objs.size G g vs H Q E → codeAny (model P w) A (.call (.ref f) ⟨us, []⟩) (CR CX outer P w H s Q E) s
section
variable {P : Program} {w : World} {K : PySem.W.Frag} {mg : Str → Option Value} {base : Heap} {G : Gi} {k : Nat} {f : Addr} {fd : FuncData} {ps : List Str}
theorem boot_iterB : bootBuiltins "iter" = some (.builtin "iter") := by decide +kernel
theorem fn_it {x qual : Str} {params : Arguments} {e : Expr} {pos p pos' : Pos} {scope : Scope} {kws : List (Str × V)} {fa : EM} (F : FunD K x qual params [.Return (some (.Call (.Name "iter" p) [e] [] pos)) pos'] scope [] kws f fd) (S : FnScope ["self"] ["self"] scope) (hb : Binds K fd ["self"] [])
    (hK : G.K = K) (hi : ∀ (cdv : Value) (A : Around) (outer : List Env) (s : Shared) (H : Hp) (E : XK), Rm k (A.deeper (envOfC qual scope s.heap.objs.size f cdv)) → PE (cxOf (CX P w) P w K mg base ["self"] qual scope f cdv A outer s H E) e (upE G (WxE E) fa) ∧ Gl (cxOf (CX P w) P w K mg base ["self"] qual scope f cdv A outer s H E) "iter")
    (hm : mg "iter" = none)
    (hst : ∀ env : Env, starEach [e] env = (false, eval e env) :: starEach [] env) :
    FnIt P w K mg base (CX P w) (k + 1) f G (fnM 0 (sRet fa)) := by
  obtain ⟨oc, od, dV, kV, doc, pm, an, cdv, ct, osl, rfl, lk, hcd, _, _⟩ := F.ex
  intro A outer s H us vs Q E hr e0 rv h
  obtain ⟨ρ, ws, S', r, hh, hl, hp⟩ := h
  have hlv : vs.length = 1 := by rw [← r.len]; exact hl
  have hlu : us.length = 1 := by rw [← rv.length]; exact hlv
  have bd := hb s us (e0.mod.kin.keeps fun b o q => (e0.bs b o q).1) (by simpa using hlu)
  rw [List.append_nil] at bd
  refine LamX.run_ofS lk hcd S hr.rm e0 bd rv hlv fun hr' => ?_
  obtain ⟨pe, gl⟩ := hi cdv A outer s H E ⟨hr', hr.gd⟩
  refine ⟨_, pss_one (ps_ret (pe_callB callR_iterT gl hm boot_iterB (pa_cons pe pa_nil (hst _)) (he := hst _))), ?_⟩
  refine ⟨ρ, _, S', relS_start r 0 (by rw [hlv]; rfl), hh, ?_⟩
  have hp : Post G ρ H (runB (toS (fa (ws.map some ++ List.replicate 0 none) S') (ws.map some ++ List.replicate 0 none) fun v S1 => .rt v S1)) _ E := hp
  cases q : fa (ws.map some ++ List.replicate 0 none) S' with
  | stuck => rw [q] at hp; exact hp.elim
  | exc c fs S1 => rw [q] at hp; exact hp
  | ok v S1 =>
    rw [q] at hp
    intro ρ1 H1 s1 h1 y ry
    obtain ⟨us', ev, hq⟩ := hp ρ1 H1 s1 h1
    subst ev
    obtain ⟨t, zs, rfl, tt, rs⟩ := ry
    exact ⟨t, zs, rfl, by show SqT K H1 t zs; rw [← hK]; exact tt.sq, fun it e1 e2 => hq t ⟨t, zs, rfl, tt, rs⟩ it e1 e2⟩
end
/-- class c hands out a tuple's iterator -/
def ItOk (P : Program) (w : World) (mg : Str → Option Value) (base : Heap) (G : Gi) (k : Nat) (c : Nat) : Option BM → Prop
  | some g => ∃ a, PySem.W.findIn G.K (.ref (G.cls c)) "__iter__" = some (some (.ref a)) ∧ PySem.W.isFn G.K (.ref a) = true ∧ FnIt P w G.K mg base (CX P w) k a G g
  | none => True
@[simp] def walkO (tab : Nat → Option BM) (v : W) : M ItW := fun S => match objV v S with
  | some (c, _) => match tab c with
    | some g => (NoX (g [v] S)).bind fun r S' => match r with
      | .tup us => .ok (.tup us) S'
      | _ => .stuck
    | none => .stuck
  | none => .stuck
@[simp] def iOwn (tab : Nat → Option BM) (f : EM) : LSt → M ItW := fun ls S => (f ls S).bind fun v S1 => walkO tab v S1
@[simp] def iEl (i1 i2 : LSt → M ItW) : LSt → M ItW := fun ls S => match i1 ls S with
  | .stuck => i2 ls S
  | r => r
section
variable {X : Cx} {G : Gi} {Wx : WX} {k : Nat} {tg a : Expr} {fa : EM}
theorem i_el {i1 i2 : LSt → M ItW} (h1 : PI X tg a (upI G Wx i1)) (h2 : PI X tg a (upI G Wx i2)) : PI X tg a (upI G Wx (iEl i1 i2)) := by
  refine PI.imp ?_ (PI.or h1 h2)
  rintro σ H R ⟨ρ, ls, S, hs, hh, hp⟩
  have hp : Post G ρ H (match i1 ls S with | .stuck => i2 ls S | r => r) _ _ := hp
  cases q : i1 ls S with
  | stuck => rw [q] at hp; exact .inr ⟨ρ, ls, S, hs, hh, hp⟩
  | ok v S1 => rw [q] at hp; exact .inl ⟨ρ, ls, S, hs, hh, by rw [q]; exact hp⟩
  | exc c fs S1 => rw [q] at hp; exact .inl ⟨ρ, ls, S, hs, hh, by rw [q]; exact hp⟩
theorem i_own {tab : Nat → Option BM} (hK : G.K = X.K) (hr : Rm k X.A) (T : ∀ c, ItOk X.prog X.w X.mg X.base G k c (tab c)) (h : PE X a (upE G Wx fa)) : PI X tg a (upI G Wx (iOwn tab fa)) := by
  refine ⟨fun pins s σ H R I ⟨ρ, ls, S, hs, hh, hp⟩ => ?_⟩
  refine thn (h.run pins s σ H (fun x H1 => ∃ ρ1 v S1, RelW G ρ1 H1 v x ∧ RelH G ρ1 H1 S1 ∧ Post G ρ1 H1 (walkO tab v S1) (fun it S' ρ' H' => ∀ J, RelIt G ρ' H' it J → R J H') fun c d H' => Wx c d σ H') I ⟨ρ, ls, S, hs, hh, (Post.bind hp).mono fun v S1 ρ1 H1 s1 h1 q x rx => ⟨ρ1, v, S1, rx, h1, q⟩⟩) fun u s1 ⟨x, H1, I1, ru, ρ1, v, S1, rx, h1, q⟩ => ?_
  simp only [walkO] at q
  cases q1 : objV v S1 with
  | none => rw [q1] at q; exact q.elim
  | some cf =>
    obtain ⟨c, fl⟩ := cf
    rw [q1] at q
    have Tc := T c
    simp only at q
    cases q2 : tab c with
    | none => rw [q2] at q; exact q.elim
    | some g =>
      rw [q2] at q Tc
      simp only at q
      obtain ⟨fa', f1, f2, F⟩ := Tc
      rw [hK] at f1 f2 F
      obtain ⟨a, ox, od, rfl, J⟩ := rel_inst I1 h1 rx q1
      obtain rfl : u = Value.ref a := ru
      obtain ⟨m, hF⟩ := I1.fr
      refine PySem.W.owit_iter hF I1.ok.mod.kin J f1 f2 ?_
      refine wpAny_call (codeAny_mono (F X.A X.stack s1 H1 [.ref a] [.ref a] (fun y H' => ∃ it t us ρ2 H2, y = .ref it ∧ H' = upd H2 it (TtO t it) ∧ H2 it = Option.none ∧ s1.heap.objs.size ≤ it ∧ RelW G ρ2 H2 (.tup us) (.ref t) ∧ ∀ J, RelIt G ρ2 H2 (.tup us) J → R J H2) NoE hr I1.env0 (.cons rfl .nil) ?_) fun z s' hz => ?_)
      · refine ⟨ρ1, [v], S1, ⟨_, [], rfl, rx, rfl⟩, h1, rfl, (NoX_post (Post.bind q)).mono fun w S2 ρ2 H2 s2 h2 q3 => ?_⟩
        cases w with
        | tup us => exact ⟨us, rfl, fun t rt it e1 e2 => ⟨it, t, us, ρ2, H2, rfl, rfl, e1, e2, rt, fun J rj => q3 ρ2 H2 .refl h2 J rj⟩⟩
        | _ => exact q3.elim
      · cases z with
        | error e =>
          obtain ⟨_, _, _, _, _, _, _, _, _, _, _, _, z⟩ := hz
          exact z.elim
        | ok fl' =>
          cases fl' with
          | next => exact False.elim hz
          | brk => exact False.elim hz
          | cont => exact False.elim hz
          | ret u' =>
            obtain ⟨y, H', I', ry, it, t, us, ρ2, H2, rfl, rfl, e1, e2, rt, hR⟩ := I1.after hz
            cases ry
            have ho := ttO_get I' upd_same
            have hT : s'.TypeIs (.ref it) "tuple_iterator" := ⟨_, ho, rfl⟩
            unfold PySem.W.OwitIt
            refine wpAny_specialOf (name := Str.ofString "__next__") hT PySem.F.slot_tuple_iterator_next.lookup ?_
            have D := ItX.inv_drop I' upd_same
            have Fp := ItX.inv_fp I' upd_same (Nat.le_trans I1.sz e2)
            rw [ItX.dropH_upd e1] at D Fp
            obtain ⟨t', zs, ez, tt, rs⟩ := rt
            cases ez
            refine ⟨it, [it], _, Itt X.K t, H2, rfl, D, turn_tuple t it, ⟨_, ho, rfl, rfl⟩, fun b hb => ?_, hR _ (RelIt.ofT hK tt rs)⟩
            have e : b = it := by simpa using hb
            subst e
            exact Fp
end
end Mp
set_option Elab.async false
set_option linter.all false
set_option maxRecDepth 100000
set_option maxHeartbeats 4000000
namespace Mp
open PySem PySem.Spec PyProof.Rows L2
/-! ### list(o), o walked by its class -/
/-- the loop of list.extend is entered -/
theorem extend_goes {prog : Program} {w : World} {A : Around} {args : Args} {Rs : Result → Shared → Prop} {s : Shared} (h : wpAny (model prog w) A.in1 (Builtin.«list.extend.loop» args) (fun fin s' => match fin with | .done f => Rs (.ok f) s' | .again c' => c'.quiet = true ∧ codeAny (model prog w) A c' Rs s') (fun e s' => Rs (.error e) s') s) :
    codeAny (model prog w) A (.builtin "list.extend.loop" args) Rs s := codeAny_builtin PySem.F.entry_extend_loop ((Around.under_plainId PySem.F.plain_extend_loop _).symm ▸ h)
theorem it_loop {X : Cx} {pins : List (Addr × Obj)} {σ : L2.St} {H : Hp} {t it q : Addr} {zs : List V} {A1 : Around} {Rs : Result → Shared → Prop} (hA : A1.in1.handled = none) (hne : it ≠ q) (hf : FpOk X pins H it) (hs : ∀ ys, SqT X.K (upd H q (.lst ys)) t zs) (hlen : zs.length ≤ big)
    (hdone : ∀ s, Inv X pins σ (upd H q (.lst zs)) s → Rs (.ok (.ret .none)) s) :
    ∀ (m i : Nat) (s : Shared), i + m = zs.length → Inv X pins σ (upd H q (.lst (zs.take i))) s → s.heap.IsTupleIter it t i → codeAny (model X.prog X.w) A1 (.builtin "list.extend.loop" ⟨[.ref q, .ref it, .none], []⟩) Rs s := by
  intro m
  induction m with
  | zero =>
    intro i s hi I st
    obtain ⟨its, rv, p, hz⟩ := I.tuple (hs _)
    obtain ⟨f0, f1, f2, f3, f4, f5⟩ := hf
    have hl := rv.length
    refine extend_goes ?_
    show wpAny _ A1.in1 (pyNext (.ref it) >>= _) _ _ s
    refine wpAny_bind (wpAny_pyNext_tuple_end hA st (show s.heap.IsTuple t its.toArray from p) (by simp; omega) fun h' eb => ?_)
    have I1 := I.turned (t' := s.toks) (fun b o hb e => eb b o hb e) (by rw [upd_ne hne]; exact f0) f1 f3 f4 f5
    have e : zs.take i = zs := List.take_of_length_le (by omega)
    rw [e] at I1
    exact wpAny_pure (hdone _ I1)
  | succ m ih =>
    intro i s hi I st
    obtain ⟨its, rv, p, hz⟩ := I.tuple (hs _)
    have hx : zs[i]? = some (zs[i]'(by omega)) := List.getElem?_eq_getElem _
    obtain ⟨u, hu, ru⟩ := rv.get hx
    obtain ⟨f0, f1, f2, f3, f4, f5⟩ := id hf
    refine extend_goes ?_
    show wpAny _ A1.in1 (pyNext (.ref it) >>= _) _ _ s
    refine wpAny_bind (wpAny_pyNext_tuple_item st (show s.heap.IsTuple t its.toArray from p) (x := u) (by simpa using hu) fun h' st' sb => ?_)
    have I1 := I.turned (t' := s.toks) (fun b o hb e => (sb.2 b hb).trans e) (by rw [upd_ne hne]; exact f0) f1 f3 f4 f5
    show wpAny _ A1.in1 (updateSeq q (·.push u) >>= _) _ _ _
    obtain ⟨z, its2, k, r2, hl, e⟩ := I1.lstM upd_same
    have hsz : its2.length ≤ big := by
      have := r2.length
      rw [← this, List.length_take]; omega
    refine wpAny_bind (wpAny_updateSeq e rfl (wpAny_pure ⟨plainId_quiet PySem.F.plain_extend_loop _, ?_⟩) (by rw [List.size_toArray]; exact le_line hsz) (by show (its2.toArray.push u).size ≤ sizeLine + 1; rw [Array.size_push, List.size_toArray]; exact Nat.succ_le_succ (le_line hsz)))
    have J := I1.lset (f := (·.push u)) (its := its2) (its' := its2 ++ [u]) (t' := s.toks) upd_same e (by simp) (r2.append (.cons ru .nil)) (by
      rw [List.length_append, List.length_singleton, List.length_take]
      exact le_line (by omega))
    rw [upd_upd] at J
    have e2 : zs.take i ++ [zs[i]'(by omega)] = zs.take (i + 1) := (List.take_append_getElem (by omega))
    rw [e2] at J
    exact ih (i + 1) _ (by omega) J (st'.at fun o e' => PySem.Heap.get?_update_of_ne _ (Ne.symm hne) e')
/-- a step of a built-in that may hand over to another one -/
abbrev Hands (M : Model) (A : Around) (Rs : Result → Shared → Prop) (m : Sem Fin) (s : Shared) : Prop :=
  wpAny M A.in1 m (fun fin s' => match fin with | .done f => Rs (.ok f) s' | .again c' => c'.quiet = true ∧ codeAny M A c' Rs s') (fun e s' => Rs (.error e) s') s
section
variable {X : Cx} {pins : List (Addr × Obj)} {σ : L2.St} {H : Hp} {s : Shared} {q : Addr} {u : Value}
theorem upd_back {o : HO} (h : H q = some o) : upd H q o = H := funext fun b => if e : b = q then by rw [e, upd_same, h] else upd_ne e
/-- an empty list made empty: as it was -/
theorem empty_again {k : Nat} (I : Inv X pins σ H s) (hq : H q = some (.lst [])) (e : s.heap.get? q = some { cls := .type "list", dict := none, data := .seq #[] k, slots := #[] }) {f : Array Value → Array Value} (hf : f #[] = #[]) :
    Inv X pins σ H { s with heap := s.heap.update q (Obj.mapSeq f) } := by
  have J := I.lset (f := f) (its := []) (its' := []) (ys := []) (t' := s.toks) hq e (by simpa using hf) .nil (Nat.zero_le _)
  rw [upd_back hq] at J
  exact J
variable {Rs : Result → Shared → Prop}
theorem list_inits {A : Around} (I : Inv X pins σ H s) (hq : H q = some (.lst [])) (h : ∀ s1, Inv X pins σ H s1 → Hands (model X.prog X.w) A Rs (Builtin.List.listExtendWith (.ref q) u .none) s1) :
    Hands (model X.prog X.w) A Rs (Builtin.«list.__init__» ⟨[.ref q, u], []⟩) s := by
  obtain ⟨_, its, k, rv, _, e⟩ := I.lstM hq
  cases rv
  exact wpAny_bind (wpAny_bind (wpAny_seqItems e rfl (wpAny_pure (wpAny_bind (wpAny_updateSeq e rfl (wpAny_bind (wpAny_letGo (h _ (empty_again I hq e rfl)))))))))
/-- list(u): what is left is to fill the new list from u -/
theorem list_fills {Q : VK} (I : Inv X pins σ H s) (h : ∀ q s1, H q = none → Inv X pins σ (upd H q (.lst [])) s1 → q = s.heap.objs.size →
      Hands (model X.prog X.w) X.A.in1 (wants (fun r s2 => r = .none ∧ EP X pins σ Q (.ref q) s2) X.xe) (Builtin.List.listExtendWith (.ref q) u .none) s1) :
    wpAny (model X.prog X.w) X.A (call (.type "list") [u]) (EP X pins σ Q) X.xe s :=
  have new : Inv X pins σ (upd H s.heap.objs.size (.lst [])) { s with heap := s.heap.push { cls := .type "list", data := .seq (([] : List Value).toArray) }, toks := s.toks } := I.lnew .nil (Nat.zero_le _)
  callType_codes PySem.F.called_list (PySem.F.typeCall_list_1 u) PySem.F.entry_list_init (code_list_new u (Q₁ := fun o s1 => o = .ref s.heap.objs.size ∧ s1 = _) ⟨rfl, rfl⟩) (by
    rintro o s1 ⟨rfl, rfl⟩
    exact ⟨⟨_, Heap.get?_push_size _ rfl, rfl⟩, PySem.F.args_list_init_2 _ u, list_inits new upd_same fun s1 I1 => h _ s1 I.fresh I1 rfl⟩)
/-- room made ahead: a thing put in and taken out again -/
theorem touch_keeps {A : Around} {E : Value → Shared → Prop} {P : Shared → Prop} (I : Inv X pins σ H s) (hq : H q = some (.lst [])) (h : ∀ s1, Inv X pins σ H s1 → (∀ b o, b ≠ q → s.heap.get? b = some o → s1.heap.get? b = some o) → P s1) :
    wpAny (model X.prog X.w) A (Builtin.List.listTouch (.ref q)) (fun _ => P) E s := by
  obtain ⟨_, its, k, rv, _, e⟩ := I.lstM hq
  cases rv
  have up := PySem.IsL.update (l := q) e (·.push Value.none)
  refine wpAny_bind (wpAny_updateSeq e rfl (wpAny_updateSeq up rfl (h _ ?_ fun b o hb x => PySem.Heap.get?_update_of_ne _ hb.symm (PySem.Heap.get?_update_of_ne _ hb.symm x)) (le_line (by decide)) (Nat.zero_le _)))
  have J := (I.lset (its' := [.none]) (ys := [.non]) (t' := s.toks) hq e rfl (.cons rfl .nil) (le_line (by decide))).lset (f := (·.pop)) (its := [.none]) (its' := []) (ys := []) (t' := s.toks) upd_same up rfl .nil (Nat.zero_le _)
  rw [upd_upd, upd_back hq] at J
  exact J
/-- class C says nothing of a length -/
theorem own_hintL {M : Model} {A : Around} {E : Value → Shared → Prop} {Q : Bool → Shared → Prop} {K : PySem.W.Frag} {ox : Obj} {od : Option Obj} {C a : Addr} (h1 : PySem.W.findIn K (.ref C) "__len__" = some none) (h2 : PySem.W.findIn K (.ref C) "__length_hint__" = some none) (hK : K.In s.heap) (J : PySem.W.InstAt s.heap a ox C od) (h : Q true s) :
    wpAny M A (Builtin.List.listLengthHint (.ref a)) Q E s :=
  have look {n : String} {Q' : Option Value → Shared → Prop} (x : PySem.W.findIn K (.ref C) n = some none) (q : Q' none s) : wpAny M A (specialOf (.ref a) n) Q' E s := wpAny_bind (J.type.here ((PySem.W.looks_findIn hK x).here q))
  wpAny_bind (look h1 (PySem.W.KFB.if_not rfl (PySem.W.KFB.if_not rfl (wpAny_bind (look h2 (wpAny_pure h))))))
end
@[simp] def listO (tab : Nat → Option BM) : W → M W := fun v S => match objV v (S ++ [.lst []]) with
  | some (c, _) => match tab c with
    | some g => (NoX (g [v] (S ++ [.lst []]))).bind fun r S' => match r with
      | .tup us => match objV v S' with
        | some (c', _) => if c' = c ∧ us.length ≤ big then match lstOf S.length S' with
          | some [] => .ok (.loc S.length) (S'.set S.length (.lst us))
          | _ => .stuck else .stuck
        | none => .stuck
      | _ => .stuck
    | none => .stuck
  | none => .stuck
/-- class c tells no length -/
def NoLen (G : Gi) (tab : Nat → Option BM) : Prop := ∀ c g, tab c = some g → PySem.W.findIn G.K (.ref (G.cls c)) "__len__" = some none ∧ PySem.W.findIn G.K (.ref (G.cls c)) "__length_hint__" = some none
section
variable {X : Cx} {G : Gi} {k : Nat}
/-- what stands for the walk of an own object: the tuple it answers with -/
theorem c_listO {tab : Nat → Option BM} (hc : X.calm = true) (hK : G.K = X.K) (hr : Rm (k + 2) X.A) (T : ∀ c, ItOk X.prog X.w X.mg X.base G k c (tab c)) (NL : NoLen G tab) : CallR X (.type "list") (upC G (b1 (listO tab))) := by
  refine c_b1 fun pins s σ H xs us Q I r ⟨x, ex, ρ, v, S, rv, hh, hp⟩ => ?_
  subst ex
  obtain ⟨u, rfl, ru⟩ : ∃ u, us = [u] ∧ RelV x u := by
    cases r with
    | cons h t => cases t; exact ⟨_, rfl, h⟩
  refine list_fills I fun q s1 hn I1 hq => ?_
  simp only [listO] at hp
  cases q1 : objV v (S ++ [.lst []]) with
  | none => simp only [q1] at hp; exact hp.elim
  | some cf =>
  obtain ⟨c, fs⟩ := cf
  cases q2 : tab c with
  | none => simp only [q1, q2] at hp; exact hp.elim
  | some g =>
  simp only [q1, q2] at hp
  obtain ⟨n1, n2⟩ := NL c g q2
  have Tc := T c
  rw [q2] at Tc
  obtain ⟨fa, f1, f2, F⟩ := Tc
  rw [hK] at f1 f2 F n1 n2
  have st1 := Step.new_ (o := .lst []) hh hn
  have hh1 := lst_new (ws := []) (xs := []) hh hn rfl
  have rv1 := rv.step st1
  obtain ⟨a, ox, od, rfl, J⟩ := rel_inst I1 hh1 rv1 q1
  obtain ⟨m0, hF⟩ := I1.fr
  have ne : q ≠ a := by
    obtain ⟨a', dx, ys, e', ea, _, _⟩ := rel_obj hh1 rv1 q1
    cases e'
    intro z
    rw [← z, upd_same] at ea
    cases ea
  obtain rfl : u = Value.ref a := ru
  have notSeq : (Builtin.List.listSameRef (.ref q) (.ref a) || Value.ref (G.cls c) == Value.type "list" || Value.ref (G.cls c) == Value.type "tuple") = false := by
    rw [show Builtin.List.listSameRef (.ref q) (.ref a) = false from beq_eq_false_iff_ne.mpr ne]; rfl
  unfold Builtin.List.listExtendWith
  refine wpAny_bind (J.type.here ?_)
  rw [notSeq]
  refine wpAny_bind (PySem.W.owit_iter hF I1.ok.mod.kin J f1 f2 (wpAny_call (codeAny_mono (F X.A.in1.in1 X.stack s1 (upd H q (.lst [])) [.ref a] [.ref a] (fun y H' => ∃ it t us ρ2 H2 S2, y = .ref it ∧ H' = upd H2 it (TtO t it) ∧ H2 it = Option.none ∧ X.s_0.heap.objs.size ≤ it ∧ RelW G ρ2 H2 (.tup us) (.ref t) ∧ Step (ext ρ S.length q) (upd H q (.lst [])) ρ2 H2 ∧ RelH G ρ2 H2 S2 ∧ Post G ρ2 H2 (match objV v S2 with
        | some (c', _) => if c' = c ∧ us.length ≤ big then match lstOf S.length S2 with
          | some [] => .ok (.loc S.length) (S2.set S.length (.lst us))
          | _ => .stuck else .stuck
        | none => .stuck) (QW G Q) NoE) NoE hr.in1.in1 I1.env0.in1.in1 (.cons rfl .nil) ?_) fun z s' hz => ?_)))
  · refine ⟨_, [v], _, ⟨_, [], rfl, rv1, rfl⟩, hh1, rfl, (NoX_post (Post.bind (Post.step st1 hp))).mono fun w S2 ρ2 H2 s2 h2 q3 => ?_⟩
    cases w with
    | tup us => exact ⟨us, rfl, fun t rt it e1 e2 => ⟨it, t, us, ρ2, H2, S2, rfl, rfl, e1, Nat.le_trans I1.sz e2, rt, s2, h2, q3⟩⟩
    | _ => exact q3.elim
  · rcases z with e | fl
    · obtain ⟨_, _, _, _, _, _, _, _, _, _, _, _, z⟩ := hz
      exact z.elim
    · rcases fl with _ | _ | _ | u'
      all_goals first | exact False.elim hz | skip
      obtain ⟨y, H', I', ry, it, t, us, ρ2, H2, S2, rfl, rfl, e1, e2, rt, st2, hh2, qq⟩ := I1.after hz
      cases ry
      have ho := ttO_get I' upd_same
      have D := ItX.inv_drop I' upd_same
      have Fp := ItX.inv_fp I' upd_same e2
      rw [ItX.dropH_upd e1] at D Fp
      obtain ⟨t', zs, ez, tt, rs⟩ := rt
      cases ez
      cases q4 : objV v S2 with
      | none => simp only [q4] at qq; exact qq.elim
      | some cf2 =>
      obtain ⟨c', fs'⟩ := cf2
      simp only [q4] at qq
      split at qq
      case isFalse => exact qq.elim
      rename_i hcc
      obtain ⟨rfl, hbig⟩ := hcc
      cases q5 : lstOf S.length S2 with
      | none => simp only [q5] at qq; exact qq.elim
      | some ws5 =>
      cases ws5 with
      | cons _ _ => simp only [q5] at qq; exact qq.elim
      | nil =>
      simp only [q5] at qq
      obtain ⟨q', xs5, e5, e6, r5⟩ := hh2.lst (lstOf_eq q5)
      obtain rfl : q' = q := Option.some.inj (e5.symm.trans (st2.sub S.length q ext_same))
      obtain rfl : xs5 = [] := List.eq_nil_of_length_eq_zero r5.len.symm
      have ne2 : it ≠ q' := fun z => by rw [z, e6] at e1; cases e1
      obtain ⟨a2, ox2, od2, ea2, J2⟩ := rel_inst D hh2 (rv1.step st2) q4
      cases ea2
      have wm := hh2.warm (lstOf_eq q5) (by simp)
      have lp : ∀ s3, Inv X pins σ H2 s3 → s3.heap.IsTupleIter it t 0 → codeAny (model X.prog X.w) X.A.in1 (.builtin "list.extend.loop" ⟨[.ref q', .ref it, .none], []⟩) (wants (fun r s2 => r = .none ∧ EP X pins σ Q (.ref q') s2) X.xe) s3 := fun s3 I3 st3 =>
        it_loop (by exact I.ok.hd hc) ne2 Fp (fun ys => hK ▸ (tt.step (Step.put (o := .lst ys) e5 wm ⟨_, e6, rfl⟩)).sq) (by rw [← rs.len]; exact hbig)
          (fun s4 I4 => ⟨rfl, .ref q', _, I4, rfl, qq _ _ (Step.put e5 wm ⟨_, e6, rfl⟩) (lst_put hh2 e5 wm ⟨_, e6, rfl⟩ rs) _ ⟨q', e5, rfl⟩⟩)
          zs.length 0 s3 (Nat.zero_add _) (by rw [List.take_zero, upd_back e6]; exact I3) st3
      unfold PySem.W.OwitIt
      refine wpAny_specialOf (name := Str.ofString "__next__") ⟨_, ho, rfl⟩ PySem.F.slot_tuple_iterator_next.lookup (wpAny_bind (wpAny_holding (own_hintL n1 n2 D.kIn J2 ?_)))
      refine wpAny_ite_split (fun _ => wpAny_bind (wpAny_rule (wpAny_bind (touch_keeps D e6 fun s3 I3 kp => wpAny_pure ⟨plainId_quiet PySem.F.plain_extend_loop _, lp s3 I3 ⟨_, kp it _ ne2 ho, rfl, rfl⟩⟩)))) (fun _ => wpAny_pure ⟨plainId_quiet PySem.F.plain_extend_loop _, lp s' D ⟨_, ho, rfl, rfl⟩⟩)
end
end Mp
set_option Elab.async false
set_option linter.all false
set_option maxRecDepth 100000
set_option maxHeartbeats 4000000
namespace GQ
open PySem PySem.SeqAt
open AutoSeq1 (wpAny_loadPart')
open MeetsSeq MeetsSeq2 MeetsSeq3 SeqRoads2
section
variable {prog : Program} {w : World} {A : Around} {R : Result → Shared → Prop}
/-- != of two lists, from item i on -/
abbrev NeFrom (prog : Program) (w : World) (A : Around) (R : Result → Shared → Prop) (l b : Addr) (i : Nat) (s : Shared) : Prop :=
  wpAny (model prog w) A.in1 (Builtin.«list.__eq__.loop» ⟨[.ref l, .ref b, rawInt i, rawInt 3], []⟩) (FinOf prog w A R) (fun e s' => R (.error e) s') s
section
variable {l b : Addr} {N : Nat} {I : Nat → Shared → Prop} (hl : ListI prog w A (fun e s' => R (.error e) s') l b N I)
include hl
/-- no item is left -/
theorem ne_last {s : Shared} (now : I N s) (told : R (.ok (.ret (.bool false))) s) : NeFrom prog w A R l b N s := by
  obtain ⟨xs, ys, n, m, atL, atB, lx, ly, _⟩ := hl _ _ now
  obtain ⟨heap, gens, drawn, toks, os⟩ := s
  unfold NeFrom
  wp_walk using wpAny_loadPart' atL, wpAny_loadPart' atB
  rw [show xs[((N : Nat) : Int).toNat]? = none by simp [lx], show ys[((N : Nat) : Int).toNat]? = none by simp [ly]]
  wp_walk using wpAny_loadPart' atL, wpAny_loadPart' atB
  rw [lx, ly]
  exact (congrArg (fun c => R (.ok (.ret (.bool c))) _) (show (N != N) = false by simp)).mpr told
/-- an item, and the rest -/
theorem ne_step {i : Nat} {s : Shared} (lt : i < N) (now : I i s) (rest : ∀ s', I (i + 1) s' → NeFrom prog w A R l b (i + 1) s') : NeFrom prog w A R l b i s := by
  obtain ⟨xs, ys, n, m, atL, atB, lx, ly, turn⟩ := hl _ _ now
  have turn := turn (lx ▸ lt) (ly ▸ lt)
  obtain ⟨heap, gens, drawn, toks, os⟩ := s
  unfold NeFrom
  wp_walk using wpAny_loadPart' atL, wpAny_loadPart' atB
  rw [show xs[((i : Nat) : Int).toNat]? = some (xs[i]'(lx ▸ lt)) by simp [lx, lt], show ys[((i : Nat) : Int).toNat]? = some (ys[i]'(ly ▸ lt)) by simp [ly, lt]]
  refine wpAny_bind (wpAny_mono turn ?_ fun _ _ e => e)
  rintro _ s2 ⟨rfl, q⟩
  have goes := rest s2 q
  unfold NeFrom at goes
  obtain ⟨heap, gens, drawn, toks, os⟩ := s2
  wp_walk
  rw [show (i : Int) + 1 = ((i + 1 : Nat) : Int) by omega]
  exact ⟨plainId_quiet plain_eq_loop _, codeAny_builtin entry_eq_loop ((Around.under_plainId plain_eq_loop _).symm ▸ goes)⟩
theorem ne_from (fin : ∀ s, I N s → R (.ok (.ret (.bool false))) s) {i : Nat} (le : i ≤ N) {s : Shared} (now : I i s) : NeFrom prog w A R l b i s :=
  if e : i = N then by subst e; exact ne_last hl now (fin s now)
  else ne_step hl (by omega) now fun s' q => ne_from fin (by omega) q
termination_by N - i
/-- != of two lists of one length whose items are all equal -/
theorem list_neG (fin : ∀ s, I N s → R (.ok (.ret (.bool false))) s) {s : Shared} (start : I 0 s) :
    wpAny (model prog w) A.in1 (Builtin.«list.__ne__» ⟨[.ref l, .ref b], []⟩) (FinOf prog w A R) (fun e s' => R (.error e) s') s := by
  obtain ⟨xs, ys, n, m, atL, atB, lx, ly, _⟩ := hl _ _ start
  have goes := ne_from hl fin (Nat.zero_le N) start
  unfold NeFrom at goes
  obtain ⟨heap, gens, drawn, toks, os⟩ := s
  have same := AutoSeq1.sub_list_list
  have alike : ¬ (xs.size != ys.size) = true := by simp [lx, ly]
  wp_walk using wpAny_loadPart' atL, wpAny_loadPart' atB
  exact ⟨plainId_quiet plain_eq_loop _, codeAny_builtin entry_eq_loop ((Around.under_plainId plain_eq_loop _).symm ▸ goes)⟩
end
end
end GQ
namespace Mp
open PySem PySem.Spec PyProof.Rows L2 PySem.SeqAt PySem.Calls
/-! ### == and != of lists that hold own objects, equal ones -/
noncomputable def seqL (neg : Bool) (n : Nat) (sub : Nat → Nat → Bool) (tab : Nat → Option BM) : W → W → M W := fun v u S => match v, u with
  | .loc l, .loc m => match lstOf l S, lstOf m S with
    | some ws, some us => match itsE n sub tab S ws us with
      | some true => .ok (.bl (!neg)) S
      | _ => .stuck
    | _, _ => .stuck
  | _, _ => .stuck
theorem itsE_len {n : Nat} {sub : Nat → Nat → Bool} {tab : Nat → Option BM} {S : Sto} : ∀ {ws us : List W}, itsE n sub tab S ws us = some true → ws.length = us.length ∧ ∀ (i : Nat) v u, ws[i]? = some v → us[i]? = some u → itE n sub tab S v u = some true
  | [], [], _ => ⟨rfl, fun i v u h => by simp at h⟩
  | [], _ :: _, h => by simp [itsE] at h
  | _ :: _, [], h => by simp [itsE] at h
  | v :: ws, u :: us, h => by
    simp only [itsE] at h
    cases q : itE n sub tab S v u with
    | none => rw [q] at h; cases h
    | some b =>
      rw [q] at h
      cases b with
      | false => cases h
      | true =>
        obtain ⟨hl, hi⟩ := itsE_len h
        refine ⟨by rw [List.length_cons, List.length_cons, hl], fun i v' u' h1 h2 => ?_⟩
        cases i with
        | zero => simp at h1 h2; subst h1; subst h2; exact q
        | succ i => simp at h1 h2; exact hi i v' u' h1 h2
section
variable {X : Cx} {G : Gi} {k : Nat}
theorem seqL_listI {n sub} {tab : Nat → Option BM} (hK : G.K = X.K) (hr : Rm (k + 1) X.A) (KT : KitT G n sub) (ET : EqT G n sub) (T : ∀ c, DuOk X.prog X.w X.mg X.base G k "__eq__" c (tab c))
    {pins : List (Addr × Obj)} {σ : L2.St} {H : Hp} {ρ : Rho} {S : Sto} {l m a b : Nat} {ws us : List W} (hh : RelH G ρ H S) (ea : ρ l = some a) (eb : ρ m = some b) (q1 : lstOf l S = some ws) (q2 : lstOf m S = some us) (h : itsE n sub tab S ws us = some true) :
    GQ.ListI X.prog X.w X.A X.xe a b ws.length (fun _ s' => ∃ ρ' H', Inv X pins σ H' s' ∧ Step ρ H ρ' H' ∧ RelH G ρ' H' S) := by
  rintro i s ⟨ρ', H', I, st, h'⟩
  obtain ⟨hlen, hit⟩ := itsE_len h
  obtain ⟨a', xs, e1, e2, r1⟩ := h'.lst (lstOf_eq q1)
  obtain ⟨b', ys, f1, f2, r2⟩ := h'.lst (lstOf_eq q2)
  rw [st.sub l a ea] at e1; cases e1
  rw [st.sub m b eb] at f1; cases f1
  obtain ⟨z, its, k1, v1, hz1, g1⟩ := I.lstM e2
  obtain ⟨z2, its2, k2, v2, hz2, g2⟩ := I.lstM f2
  refine ⟨its.toArray, its2.toArray, _, _, g1, g2, by rw [List.size_toArray, r1.len, v1.length], by rw [List.size_toArray, hlen, r2.len, v2.length], fun h1 h2 => ?_⟩
  have h1' : i < its.length := by simpa using h1
  have h2' : i < its2.length := by simpa using h2
  have w1 : i < ws.length := by rw [r1.len, v1.length]; exact h1'
  have w2 : i < us.length := by rw [r2.len, v2.length]; exact h2'
  obtain ⟨x1, e1, z1⟩ := RelWs.get r1 (List.getElem?_eq_getElem w1)
  obtain ⟨x2, e2, z2⟩ := RelWs.get r2 (List.getElem?_eq_getElem w2)
  obtain ⟨u1, f1, g1⟩ := v1.get e1
  obtain ⟨u2, f2, g2⟩ := v2.get e2
  have k1 : its.toArray[i] = u1 := by rw [List.getElem?_eq_getElem h1'] at f1; simpa using f1
  have k2 : its2.toArray[i] = u2 := by rw [List.getElem?_eq_getElem h2'] at f2; simpa using f2
  rw [k1, k2]
  refine wpAny_mono (item_ok hK hr KT ET T I g1 g2 z1 z2 h' (hit i _ _ (List.getElem?_eq_getElem w1) (List.getElem?_eq_getElem w2))) (fun r s2 hz => ?_) fun _ _ z => z
  obtain ⟨e3, ρ2, H2, I2, st2, hh2⟩ := hz
  exact ⟨e3, ρ2, H2, I2, st.trans st2, hh2⟩
theorem o_slE {n sub} {tab : Nat → Option BM} (hK : G.K = X.K) (hr : Rm (k + 1) X.A) (KT : KitT G n sub) (ET : EqT G n sub) (T : ∀ c, DuOk X.prog X.w X.mg X.base G k "__eq__" c (tab c)) : OpR X (compareOp .Eq) (upR G (seqL false n sub tab)) := by
  rintro pins s σ H x y va ua Q I rx ry ⟨ρ, v, u, S, rv, ru, hh, hp⟩
  cases v with
  | loc l =>
    cases u with
    | loc m =>
      simp only [seqL] at hp
      cases q1 : lstOf l S with
      | none => rw [q1] at hp; exact hp.elim
      | some ws =>
        cases q2 : lstOf m S with
        | none => rw [q1, q2] at hp; exact hp.elim
        | some us =>
          rw [q1, q2] at hp
          simp only at hp
          cases q3 : itsE n sub tab S ws us with
          | none => rw [q3] at hp; exact hp.elim
          | some b0 =>
            rw [q3] at hp
            cases b0 with
            | false => exact hp.elim
            | true =>
              obtain ⟨a, ea, rfl⟩ := rv
              obtain ⟨b, eb, rfl⟩ := ru
              obtain rfl : va = Value.ref a := rx
              obtain rfl : ua = Value.ref b := ry
              show wpAny (model X.prog X.w) X.A (richCompare .Eq (.ref a) (.ref b)) _ _ _
              refine GQ.rc_listG hr.units0 _ (seqL_listI hK hr KT ET T (pins := pins) (σ := σ) hh ea eb q1 q2 q3) (fun s' ⟨ρ', H', I', st, h'⟩ => ?_) ⟨ρ, H, I, .refl, hh⟩
              exact ⟨.bl true, H', I', rfl, hp ρ' H' st h' _ rfl⟩
    | _ => exact hp.elim
  | _ => exact hp.elim
theorem o_slN {n sub} {tab : Nat → Option BM} (hK : G.K = X.K) (hr : Rm (k + 1) X.A) (KT : KitT G n sub) (ET : EqT G n sub) (T : ∀ c, DuOk X.prog X.w X.mg X.base G k "__eq__" c (tab c)) : OpR X (compareOp .NotEq) (upR G (seqL true n sub tab)) := by
  rintro pins s σ H x y va ua Q I rx ry ⟨ρ, v, u, S, rv, ru, hh, hp⟩
  cases v with
  | loc l =>
    cases u with
    | loc m =>
      simp only [seqL] at hp
      cases q1 : lstOf l S with
      | none => rw [q1] at hp; exact hp.elim
      | some ws =>
        cases q2 : lstOf m S with
        | none => rw [q1, q2] at hp; exact hp.elim
        | some us =>
          rw [q1, q2] at hp
          simp only at hp
          cases q3 : itsE n sub tab S ws us with
          | none => rw [q3] at hp; exact hp.elim
          | some b0 =>
            rw [q3] at hp
            cases b0 with
            | false => exact hp.elim
            | true =>
              obtain ⟨a, ea, rfl⟩ := rv
              obtain ⟨b, eb, rfl⟩ := ru
              obtain rfl : va = Value.ref a := rx
              obtain rfl : ua = Value.ref b := ry
              have L := seqL_listI hK hr KT ET T (pins := pins) (σ := σ) hh ea eb q1 q2 q3
              have h0 : (∃ ρ' H', Inv X pins σ H' s ∧ Step ρ H ρ' H' ∧ RelH G ρ' H' S) := ⟨ρ, H, I, .refl, hh⟩
              obtain ⟨items, items2, n1, n2, hl1, hb1, _, _, _⟩ := L 0 s h0
              show wpAny (model X.prog X.w) X.A (richCompare .NotEq (.ref a) (.ref b)) _ _ _
              refine PySem.wpAny_richCompare_same_room (op := .NotEq) ⟨_, hl1, rfl⟩ ⟨_, hb1, rfl⟩ F.slot_list_ne (GQ.call_here F.slot_list_ne ⟨_, hl1, rfl⟩ F.entry_list_ne (F.args_list_ne_2 _ _) ?_) hr.units0
              refine GQ.list_neG (R := wants (fun v s' => v ≠ .notImplemented ∧ EP X pins σ Q v s') X.xe) L (fun s' ⟨ρ', H', I', st, h'⟩ => ⟨nofun, ?_⟩) h0
              exact ⟨.bl false, H', I', rfl, hp ρ' H' st h' _ rfl⟩
    | _ => exact hp.elim
  | _ => exact hp.elim
end
end Mp
set_option Elab.async false
set_option linter.all false
set_option maxRecDepth 100000
set_option maxHeartbeats 4000000
namespace Mp
open PySem PySem.Spec PyProof.Rows L2 StX
/-! ### a def with a star, called by keyword with nothing left over -/
def FnKw (P : Program) (w : World) (K : PySem.W.Frag) (mg : Str → Option Value) (base : Heap) (CX : CXT) (k : Nat) (f : Addr) (np : Nat) (ks : List Str) (G : Gi) (g : BM) : Prop :=
  ∀ (A : Around) (outer : List Env) (s : Shared) (H : Hp) (us ws : List Value) (vs ys : List V) (Q : VK) (E : XK), Rm k A → Env0 P w K mg base A outer s H → Vals vs us → Vals ys ws → vs.length = np → ys.length = ks.length → spR G g (vs ++ ys) H Q E → codeAny (model P w) A (.call (.ref f) ⟨us, ks.zip ws⟩) (CR CX outer P w H s Q E) s
section
variable {P : Program} {w : World} {K : PySem.W.Frag} {mg : Str → Option Value} {base : Heap} {G : Gi} {k : Nat} {f : Addr} {fd : FuncData} {ps ks : List Str}
theorem FnKw.up {j np : Nat} {g : BM} (h : j ≤ k) (F : FnKw P w K mg base (CX P w) j f np ks G g) : FnKw P w K mg base (CX P w) k f np ks G g := fun A outer s H us ws vs ys Q E hr => F A outer s H us ws vs ys Q E (hr.mono h)
theorem FnIt.up {j : Nat} {g : BM} (h : j ≤ k) (F : FnIt P w K mg base (CX P w) j f G g) : FnIt P w K mg base (CX P w) k f G g := fun A outer s H us vs Q E hr => F A outer s H us vs Q E (hr.mono h)
theorem fn_starKw {x qual pv : Str} {params : Arguments} {body : List Stmt} {scope : Scope} {kws : List (Str × V)} {N : List Str} {m np : Nat} {b : SM} (F : FunD K x qual params body scope [] kws f fd) (S : FnScope N (ps ++ [pv]) scope) (hN : N.length = ps.length + 1 + m) (hps : ps.length = np + ks.length)
    (bind : ∀ (kV doc pm cd ct : Value) (an : Option Addr) (us ws : List Value), us.length = np → ws.length = ks.length → bindArgs (PySem.W.fnOf x qual params body scope .none kV doc pm an cd ct) ⟨us, ks.zip ws⟩ = (newTuple [] >>= fun t => pure (ps.zip (us ++ ws) ++ [(pv, t)])))
    (hb : ∀ (cdv : Value) (A : Around) (outer : List Env) (s : Shared) (H : Hp) (E : XK), Rm k (A.deeper (envOfC qual scope s.heap.objs.size f cdv)) →
      PSs (cxOf (CX P w) P w K mg base N qual scope f cdv A outer s H E) body (upS G (WxE E) b)) :
    FnKw P w K mg base (CX P w) (k + 1) f np ks G (fun zs => fnM m b (zs ++ [.tup []])) := by
  obtain ⟨oc, od, dV, kV, doc, pm, an, cdv, ct, osl, rfl, lk, hcd, hd, _⟩ := F.ex
  obtain rfl : dV = .none := hd.elim (fun h => h.2) fun h => absurd rfl h.1
  rintro A outer s H us ws vs ys Q E hr e0 rv ry lv ly ⟨ρ, zs, S', r, hh, hp⟩
  have lu : us.length = np := by rw [← rv.length]; exact lv
  have lw : ws.length = ks.length := by rw [← ry.length]; exact ly
  have fresh : H s.heap.objs.size = Option.none := e0.hok.fresh (Nat.le_refl _)
  have lps : (us ++ ws).length = ps.length := by rw [List.length_append, lu, lw, hps]
  refine run_bnd lk hcd S hr.rm e0 (G := fun xs H2 => ∃ p, H p = Option.none ∧ xs = (vs ++ ys) ++ [V.ref p] ∧ H2 = upd H p (.tup [])) ?_ ?_
  · intro A' Ex Q' give
    have laid : ObjOk P w (upd H s.heap.objs.size (.tup [])) (s.heap.push ({ cls := .type "tuple", data := .seq ([] : List Value).toArray } : Obj)) s.heap.objs.size (.tup []) :=
      ⟨Nat.zero_le _, [], .nil, ⟨_, Heap.get?_push_size _ rfl, rfl, _, rfl⟩⟩
    have onto := un_laid (fs := frs outer) (s := s) (o := ({ cls := .type "tuple", data := .seq ([] : List Value).toArray } : Obj)) (u := .tup []) fresh
    rw [bind _ _ _ _ _ _ us ws lu lw]
    refine wpAny_bind (wpAny_newTuple (wpAny_pure ?_) (Nat.zero_le _))
    have zz : ps.zip (us ++ ws) ++ [(pv, Value.ref s.heap.objs.size)] = (ps ++ [pv]).zip ((us ++ ws) ++ [Value.ref s.heap.objs.size]) := by
      rw [List.zip_append lps.symm]; rfl
    rw [zz]
    refine give { s with heap := s.heap.push ({ cls := .type "tuple", data := .seq ([] : List Value).toArray } : Obj) } (upd H s.heap.objs.size (.tup [])) ((vs ++ ys) ++ [V.ref s.heap.objs.size]) ((us ++ ws) ++ [Value.ref s.heap.objs.size]) (env0_laid e0 laid) onto rfl ?_ ?_ ?_ ⟨_, fresh, rfl, rfl⟩
    · exact fun e s' => cxUp outer s H _ _ E e s' onto (fun b o q => Heap.get?_push_of_some _ q) rfl
    · exact (rv.append ry).append (.cons rfl .nil)
    · simp only [List.length_append, List.length_singleton, lv, ly, hps]
  · rintro s2 H2 xs ⟨p, hp0, ex, eH⟩ hr'
    subst ex eH
    have st : Step ρ H ρ (upd H p (.tup [])) := Step.lay hp0
    have rd : RelW G ρ (upd H p (.tup [])) (.tup []) (.ref p) := tup_new (ws := []) hh hp0 rfl
    have rs : RelWs G ρ (upd H p (.tup [])) (zs ++ [.tup []]) ((vs ++ ys) ++ [V.ref p]) := (r.step st).append ⟨_, _, rfl, rd, rfl⟩
    exact ⟨_, hb cdv A outer s2 _ E ⟨hr', hr.gd⟩, ρ, _, S', relS_start rs m (by rw [hN, List.length_append, List.length_append, lv, ly, hps]; rfl), hh.lay hp0, PostS.run (hp.step st)⟩
end
@[simp] def eNewR (fin : Nat → Nat → Nat → M W) (c n nk : Nat) (init : BM) (gk : AM) : EM := fun ls S => (gk ls S).bind fun zs S2 => if zs.length = nk then
  (init (.loc S2.length :: zs) (S2 ++ [.obj c []])).bind fun v S3 => match v with
    | .non => fin c n S2.length S3
    | _ => .stuck else .stuck
section
variable {X : Cx} {G : Gi} {Wx : WX} {k : Nat} {x : Str} {p pos : Pos} {kws : List Keyword} {fk : AM}
theorem e_newR0 {cn n : Nat} {f : Addr} {ks : List Str} {g : BM} {fin : Nat → Nat → Nat → M W} (hfin : ∀ {ρ H S l a Q E}, RelH G ρ H S → ρ l = some a → Post G ρ H (fin cn n l S) (QW G Q) E → Q (.ref a) H)
    (tk : Takes X Wx) (hK : G.K = X.K) (M : Mk G.K (G.cls cn) f) (F : FnKw X.prog X.w X.K X.mg X.base (CX X.prog X.w) k f 1 ks G g) (hr : Rm (k + 1) X.A) (hg : Gl X x) (hm : X.mg x = some (.ref (G.cls cn))) (hk : PK X kws (upA G Wx fk))
    (hall : (backToKw pos (keywordEach kws X.env)).all (·.1.isSome) = true := by rfl) (hks : (backToKw pos (keywordEach kws X.env)).filterMap (·.1) = ks := by rfl) (hdb : (x == ("__debug__" : Str)) = false := by decide)
    (hpl : ((backTo pos (starEach [] X.env)).any (·.1) || (backToKw pos (keywordEach kws X.env)).any (·.1.isNone)) = false := by rfl) :
    PE X (.Call (.Name x p) [] kws pos) (upE G Wx (eNewR fin cn n ks.length g fk)) := by
  refine ⟨fun pins s σ H Q I ⟨ρ, ls, S, hs, hh, hp⟩ => ?_⟩
  have M' : Mk X.K (G.cls cn) f := hK ▸ M
  refine wpAny_Call_Name_kw (ld_glob I hg hm ?_ hdb)
  refine PySem.W.callWith_KW0 (h₀ := X.base) I.ok.mod.kin M'.kp hall (thn (hk.run pos pins s σ H (fun ys H1 => ∃ ρ1 zs S1, RelWs G ρ1 H1 zs ys ∧ RelH G ρ1 H1 S1 ∧ Post G ρ1 H1 (if zs.length = ks.length then ((g (.loc S1.length :: zs) (S1 ++ [.obj cn []])).bind fun v S3 => match v with | .non => fin cn n S1.length S3 | _ => .stuck) else .stuck) (QW G Q) fun c d H' => Wx c d σ H') I ⟨ρ, ls, S, hs, hh, (Post.bind hp).mono fun zs S1 ρ1 H1 s1 h1 q ys rz => ⟨ρ1, zs, S1, rz, h1, q⟩⟩) fun ws s1 ⟨ys, H1, I1, r, ρ1, zs, S1, rz, h1, q⟩ => ⟨I1.kIn, ?_⟩) hpl
  rw [hks]
  by_cases z : zs.length = ks.length
  · rw [if_pos z] at q
    have I2 := Inv.made (C := G.cls cn) I1
    have hx := I1.hok.fresh (a := s1.heap.objs.size + 1) (Nat.le_succ _)
    have hd := I1.hok.fresh (a := s1.heap.objs.size) (Nat.le_refl _)
    have ne : s1.heap.objs.size ≠ s1.heap.objs.size + 1 := Nat.ne_of_lt (Nat.lt_succ_self _)
    obtain ⟨st, hm2⟩ := made_H (c := cn) h1 hx hd ne
    have ly : ys.length = ks.length := by rw [← rz.len]; exact z
    refine wpAny_call (make_map (f := f) I1.kIn M'.makes M'.init (beq_iff_eq.mp M'.fn) (codeAny_mono (F _ X.stack _ _ [.ref (s1.heap.objs.size + 1)] ws [.ref (s1.heap.objs.size + 1)] ys (fun v H2 => v = .non ∧ Q (.ref (s1.heap.objs.size + 1)) H2) (fun c d H' => Wx c d σ H') (hr.make (G.cls cn) [] (ks.zip ws)) (I2.env0.make (G.cls cn) [] (ks.zip ws)) (.cons rfl .nil) r rfl ly ?_) fun z s' hz => ?_))
    · refine ⟨_, .loc S1.length :: zs, S1 ++ [.obj cn []], ⟨_, _, rfl, ⟨_, ext_same, rfl⟩, rz.step st⟩, hm2, (Post.bind (Post.step st q)).mono fun v S2 ρ2 H2 s2 h2 q2 y ry => ?_⟩
      cases v with
      | non => exact ⟨ry, hfin h2 (s2.sub _ _ ext_same) q2⟩
      | _ => exact q2.elim
    · cases z with
      | error e => exact passAt tk σ pins _ _ e s' I2 hz
      | ok fl =>
        cases fl with
        | ret u =>
          obtain ⟨v, H', I3, rv, ev, q3⟩ := I2.after hz
          subst ev
          exact ⟨rv, V.ref (s1.heap.objs.size + 1), H', I3, rfl, q3⟩
        | next => exact hz.elim
        | brk => exact hz.elim
        | cont => exact hz.elim
  · rw [if_neg z] at q; exact q.elim
end
/-! ### isinstance(error, ValueError), the fact -/
def veB (G : Gb) (n : Nat) (xc : Nat → Bool) (z : String) : Bool := (List.range n).all fun c => !xc c || (match PySem.W.kitOne G.K (.ref (G.cls c)) (.type z) with
  | some true => true
  | _ => false)
theorem veB_ok {G : Gb} {n : Nat} {xc : Nat → Bool} {z : String} (h : veB G n xc z = true) (lt : ∀ c, xc c = true → c < n) : ∀ c, xc c = true → PySem.W.kitOne G.K (.ref (G.cls c)) (.type z) = some true := fun c hc => by
  have := List.all_eq_true.mp h c (List.mem_range.mpr (lt c hc))
  rw [hc] at this
  simp only [Bool.not_true, Bool.false_or] at this
  split at this
  · assumption
  · cases this
end Mp
set_option Elab.async false
set_option linter.all false
set_option maxRecDepth 100000
set_option maxHeartbeats 4000000
namespace Mp
open PySem PySem.Spec PyProof.Rows L2
theorem boot_ValueError : bootBuiltins "ValueError" = some (.type "ValueError") := by decide +kernel
theorem asgret_ind {f : EM} {i : Nat} {m : SM} {ls ls' : LSt} {S : Sto} (h : f ls S = f ls' S) (hx : ∀ c fs S1, f ls' S = .exc c fs S1 → True) (hm : ∀ v S1, runB (m (ls.set i (some v)) S1) = runB (m (ls'.set i (some v)) S1)) : runB (sSeq (sAsg f (gNm i)) m ls S) = runB (sSeq (sAsg f (gNm i)) m ls' S) := by
  simp only [sSeq, sAsg]
  rw [h]
  cases f ls' S with
  | exc c fs S1 => rfl
  | stuck => rfl
  | ok v S1 => exact hm v S1
end Mp
set_option Elab.async false
set_option linter.all false
set_option maxRecDepth 100000
set_option maxHeartbeats 0
namespace Lw
noncomputable section
open PySem PySem.Spec PyProof.Rows L2 Mp
def top (i : Nat) : Stmt := PySem.Challenge.pw_markedpair_k14_channels_made_and_refused.main.body.getD i (.Pass ⟨0, 0, 0, 0⟩)
def mth (i j : Nat) : Stmt := (C8.clsBody (top i)).getD j (.Pass ⟨0, 0, 0, 0⟩)
def clsSub : Nat → Nat → Bool := fun c d => [(0, 0), (1, 1), (1, 0), (2, 2), (2, 0), (3, 3), (4, 4), (5, 5), (5, 4), (6, 6), (6, 4), (7, 7), (7, 4), (8, 8), (1000, 1000), (1001, 1001), (1002, 1002)].contains (c, d)
def clsX : Nat → Bool := fun c => [0, 1, 2].contains c
def noTab : Nat → Option BM := fun _ => none
theorem fnUp {P : Program} {w : World} {K : PySem.W.Frag} {mg : Str → Option Value} {base : Heap} {CX : CXT} {j k : Nat} {f : Addr} {sp : Sp} (h : j ≤ k) (F : FnG P w K mg base CX j f sp) : FnG P w K mg base CX k f sp := fun A outer s H us vs Q E hr e0 r q => F A outer s H us vs Q E (hr.mono h) e0 r q
theorem foUp {P : Program} {w : World} {K : PySem.W.Frag} {mg : Str → Option Value} {base : Heap} {CX : CXT} {j k : Nat} {f : Addr} {fd : FuncData} {ps : List Str} {sp : Sp} (h : j ≤ k) (F : FnO P w K mg base CX j f fd ps sp) : FnO P w K mg base CX k f fd ps sp := ⟨F.len, fun A outer s H args us vs Q E hr e0 b r q => F.run A outer s H args us vs Q E (hr.mono h) e0 b r q⟩
structure Tp (w : World) (K : PySem.W.Frag) (mg : Str → Option Value) (G : Gb) where
  hK : G.K = K
  kit : KitT G 9 clsSub
  eqt : EqT G 9 clsSub
  xcf : ∀ c, clsX c = true → XcF G c
  xm : XmT G clsX clsSub
  ve_ValueError : ∀ c, clsX c = true → PySem.W.kitOne G.K (.ref (G.cls c)) (.type "ValueError") = some true
  nl_Channel : PySem.W.findIn G.K (.ref (G.cls 8)) "__len__" = some none
  nh_Channel : PySem.W.findIn G.K (.ref (G.cls 8)) "__length_hint__" = some none
  a__wall : Addr
  fd__wall : FuncData
  F__wall : FunD K "_wall" "_wall" (defArgs (top 0)) (defBody (top 0)) (defScope (top 0)) [] [] a__wall fd__wall
  g__wall : mg "_wall" = some (.ref a__wall)
  a_is_integer : Addr
  fd_is_integer : FuncData
  F_is_integer : FunD K "is_integer" "is_integer" (defArgs (top 2)) (defBody (top 2)) (defScope (top 2)) [] [] a_is_integer fd_is_integer
  g_is_integer : mg "is_integer" = some (.ref a_is_integer)
  a_is_within : Addr
  fd_is_within : FuncData
  F_is_within : FunD K "is_within" "is_within" (defArgs (top 3)) (defBody (top 3)) (defScope (top 3)) [] [] a_is_within fd_is_within
  g_is_within : mg "is_within" = some (.ref a_is_within)
  a_Words___init__ : Addr
  fd_Words___init__ : FuncData
  F_Words___init__ : FunD K "__init__" "Words.__init__" (defArgs (mth 9 0)) (defBody (mth 9 0)) (defScope (mth 9 0)) [(V.int (0))] [] a_Words___init__ fd_Words___init__
  a_Words_peek : Addr
  fd_Words_peek : FuncData
  F_Words_peek : FunD K "peek" "Words.peek" (defArgs (mth 9 1)) (defBody (mth 9 1)) (defScope (mth 9 1)) [] [] a_Words_peek fd_Words_peek
  a_Words_ask : Addr
  fd_Words_ask : FuncData
  F_Words_ask : FunD K "ask" "Words.ask" (defArgs (mth 9 2)) (defBody (mth 9 2)) (defScope (mth 9 2)) [] [] a_Words_ask fd_Words_ask
  a_Words_read_if : Addr
  fd_Words_read_if : FuncData
  F_Words_read_if : FunD K "read_if" "Words.read_if" (defArgs (mth 9 4)) (defBody (mth 9 4)) (defScope (mth 9 4)) [] [] a_Words_read_if fd_Words_read_if
  a_Words_some : Addr
  fd_Words_some : FuncData
  F_Words_some : FunD K "some" "Words.some" (defArgs (mth 9 5)) (defBody (mth 9 5)) (defScope (mth 9 5)) [] [] a_Words_some fd_Words_some
  a_Words_close : Addr
  fd_Words_close : FuncData
  F_Words_close : FunD K "close" "Words.close" (defArgs (mth 9 8)) (defBody (mth 9 8)) (defScope (mth 9 8)) [] [] a_Words_close fd_Words_close
  a_Fault___eq__ : Addr
  fd_Fault___eq__ : FuncData
  F_Fault___eq__ : FunD K "__eq__" "Fault.__eq__" (defArgs (mth 12 0)) (defBody (mth 12 0)) (defScope (mth 12 0)) [] [] a_Fault___eq__ fd_Fault___eq__
  a_Fault___str__ : Addr
  fd_Fault___str__ : FuncData
  F_Fault___str__ : FunD K "__str__" "Fault.__str__" (defArgs (mth 12 1)) (defBody (mth 12 1)) (defScope (mth 12 1)) [] [] a_Fault___str__ fd_Fault___str__
  a_Loses___eq__ : Addr
  fd_Loses___eq__ : FuncData
  F_Loses___eq__ : FunD K "__eq__" "Loses.__eq__" (defArgs (mth 13 1)) (defBody (mth 13 1)) (defScope (mth 13 1)) [] [] a_Loses___eq__ fd_Loses___eq__
  a_Loses___str__ : Addr
  fd_Loses___str__ : FuncData
  F_Loses___str__ : FunD K "__str__" "Loses.__str__" (defArgs (mth 13 2)) (defBody (mth 13 2)) (defScope (mth 13 2)) [] [] a_Loses___str__ fd_Loses___str__
  a_Doubles___eq__ : Addr
  fd_Doubles___eq__ : FuncData
  F_Doubles___eq__ : FunD K "__eq__" "Doubles.__eq__" (defArgs (mth 14 1)) (defBody (mth 14 1)) (defScope (mth 14 1)) [] [] a_Doubles___eq__ fd_Doubles___eq__
  a_Doubles___str__ : Addr
  fd_Doubles___str__ : FuncData
  F_Doubles___str__ : FunD K "__str__" "Doubles.__str__" (defArgs (mth 14 2)) (defBody (mth 14 2)) (defScope (mth 14 2)) [] [] a_Doubles___str__ fd_Doubles___str__
  a_Overtakes___init__ : Addr
  fd_Overtakes___init__ : FuncData
  F_Overtakes___init__ : FunD K "__init__" "Overtakes.__init__" (defArgs (mth 15 1)) (defBody (mth 15 1)) (defScope (mth 15 1)) [] [] a_Overtakes___init__ fd_Overtakes___init__
  a_Overtakes___eq__ : Addr
  fd_Overtakes___eq__ : FuncData
  F_Overtakes___eq__ : FunD K "__eq__" "Overtakes.__eq__" (defArgs (mth 15 2)) (defBody (mth 15 2)) (defScope (mth 15 2)) [] [] a_Overtakes___eq__ fd_Overtakes___eq__
  a_Overtakes___str__ : Addr
  fd_Overtakes___str__ : FuncData
  F_Overtakes___str__ : FunD K "__str__" "Overtakes.__str__" (defArgs (mth 15 3)) (defBody (mth 15 3)) (defScope (mth 15 3)) [] [] a_Overtakes___str__ fd_Overtakes___str__
  a_is_kind : Addr
  fd_is_kind : FuncData
  F_is_kind : FunD K "is_kind" "is_kind" (defArgs (top 16)) (defBody (top 16)) (defScope (top 16)) [] [] a_is_kind fd_is_kind
  g_is_kind : mg "is_kind" = some (.ref a_is_kind)
  a_told_faults : Addr
  fd_told_faults : FuncData
  F_told_faults : FunD K "told_faults" "told_faults" (defArgs (top 17)) (defBody (top 17)) (defScope (top 17)) [] [] a_told_faults fd_told_faults
  g_told_faults : mg "told_faults" = some (.ref a_told_faults)
  a_Channel___init__ : Addr
  fd_Channel___init__ : FuncData
  F_Channel___init__ : FunD K "__init__" "Channel.__init__" (defArgs (mth 19 1)) (defBody (mth 19 1)) (defScope (mth 19 1)) [] [] a_Channel___init__ fd_Channel___init__
  a_Channel_loses : Addr
  fd_Channel_loses : FuncData
  F_Channel_loses : FunD K "loses" "Channel.loses" (defArgs (mth 19 2)) (defBody (mth 19 2)) (defScope (mth 19 2)) [] [] a_Channel_loses fd_Channel_loses
  a_Channel_doubles : Addr
  fd_Channel_doubles : FuncData
  F_Channel_doubles : FunD K "doubles" "Channel.doubles" (defArgs (mth 19 3)) (defBody (mth 19 3)) (defScope (mth 19 3)) [] [] a_Channel_doubles fd_Channel_doubles
  a_Channel_overtakes : Addr
  fd_Channel_overtakes : FuncData
  F_Channel_overtakes : FunD K "overtakes" "Channel.overtakes" (defArgs (mth 19 4)) (defBody (mth 19 4)) (defScope (mth 19 4)) [] [] a_Channel_overtakes fd_Channel_overtakes
  a_Channel___contains__ : Addr
  fd_Channel___contains__ : FuncData
  F_Channel___contains__ : FunD K "__contains__" "Channel.__contains__" (defArgs (mth 19 6)) (defBody (mth 19 6)) (defScope (mth 19 6)) [] [] a_Channel___contains__ fd_Channel___contains__
  a_Channel___sub__ : Addr
  fd_Channel___sub__ : FuncData
  F_Channel___sub__ : FunD K "__sub__" "Channel.__sub__" (defArgs (mth 19 8)) (defBody (mth 19 8)) (defScope (mth 19 8)) [] [] a_Channel___sub__ fd_Channel___sub__
  a_Channel___eq__ : Addr
  fd_Channel___eq__ : FuncData
  F_Channel___eq__ : FunD K "__eq__" "Channel.__eq__" (defArgs (mth 19 12)) (defBody (mth 19 12)) (defScope (mth 19 12)) [] [] a_Channel___eq__ fd_Channel___eq__
  a_Channel___str__ : Addr
  fd_Channel___str__ : FuncData
  F_Channel___str__ : FunD K "__str__" "Channel.__str__" (defArgs (mth 19 13)) (defBody (mth 19 13)) (defScope (mth 19 13)) [] [] a_Channel___str__ fd_Channel___str__
  a_need_channel : Addr
  fd_need_channel : FuncData
  F_need_channel : FunD K "need_channel" "need_channel" (defArgs (top 20)) (defBody (top 20)) (defScope (top 20)) [] [] a_need_channel fd_need_channel
  g_need_channel : mg "need_channel" = some (.ref a_need_channel)
  a__law_pen : Addr
  fd__law_pen : FuncData
  F__law_pen : FunD K "_law_pen" "_law_pen" (defArgs (top 23)) (defBody (top 23)) (defScope (top 23)) [] [] a__law_pen fd__law_pen
  g__law_pen : mg "_law_pen" = some (.ref a__law_pen)
  a__law_draw : Addr
  fd__law_draw : FuncData
  F__law_draw : FunD K "_law_draw" "_law_draw" (defArgs (top 24)) (defBody (top 24)) (defScope (top 24)) [] [] a__law_draw fd__law_draw
  g__law_draw : mg "_law_draw" = some (.ref a__law_draw)
  a__law_pick : Addr
  fd__law_pick : FuncData
  F__law_pick : FunD K "_law_pick" "_law_pick" (defArgs (top 25)) (defBody (top 25)) (defScope (top 25)) [] [] a__law_pick fd__law_pick
  g__law_pick : mg "_law_pick" = some (.ref a__law_pick)
  a__law_four : Addr
  fd__law_four : FuncData
  F__law_four : FunD K "_law_four" "_law_four" (defArgs (top 26)) (defBody (top 26)) (defScope (top 26)) [] [] a__law_four fd__law_four
  g__law_four : mg "_law_four" = some (.ref a__law_four)
  a__law_faults : Addr
  fd__law_faults : FuncData
  F__law_faults : FunD K "_law_faults" "_law_faults" (defArgs (top 27)) (defBody (top 27)) (defScope (top 27)) [] [] a__law_faults fd__law_faults
  g__law_faults : mg "_law_faults" = some (.ref a__law_faults)
  a__law_channel : Addr
  fd__law_channel : FuncData
  F__law_channel : FunD K "_law_channel" "_law_channel" (defArgs (top 28)) (defBody (top 28)) (defScope (top 28)) [] [] a__law_channel fd__law_channel
  g__law_channel : mg "_law_channel" = some (.ref a__law_channel)
  a__law_told : Addr
  fd__law_told : FuncData
  F__law_told : FunD K "_law_told" "_law_told" (defArgs (top 29)) (defBody (top 29)) (defScope (top 29)) [] [] a__law_told fd__law_told
  g__law_told : mg "_law_told" = some (.ref a__law_told)
  a__law_made_right : Addr
  fd__law_made_right : FuncData
  F__law_made_right : FunD K "_law_made_right" "_law_made_right" (defArgs (top 31)) (defBody (top 31)) (defScope (top 31)) [] [] a__law_made_right fd__law_made_right
  g__law_made_right : mg "_law_made_right" = some (.ref a__law_made_right)
  a__law_refused_right : Addr
  fd__law_refused_right : FuncData
  F__law_refused_right : FunD K "_law_refused_right" "_law_refused_right" (defArgs (top 32)) (defBody (top 32)) (defScope (top 32)) [] [] a__law_refused_right fd__law_refused_right
  g__law_refused_right : mg "_law_refused_right" = some (.ref a__law_refused_right)
  c__law_refused_right : Addr
  P__law_refused_right : Addr
  C__law_refused_right : FunC K "_law_refused_right" "_law_refused_right" (defArgs (top 32)) (defBody (top 32)) (defScope (top 32)) a__law_refused_right fd__law_refused_right c__law_refused_right
  a_law : Addr
  fd_law : FuncData
  F_law : FunD K "law" "law" (defArgs (top 33)) (defBody (top 33)) (defScope (top 33)) [] [] a_law fd_law
  g_law : mg "law" = some (.ref a_law)
  a_Words_one_of : Addr
  fd_Words_one_of : FuncData
  F_Words_one_of : FunD K "one_of" "Words.one_of" (defArgs (mth 9 3)) (defBody (mth 9 3)) (defScope (mth 9 3)) [] [] a_Words_one_of fd_Words_one_of
  a_Words_integer : Addr
  fd_Words_integer : FuncData
  F_Words_integer : FunD K "integer" "Words.integer" (defArgs (mth 9 7)) (defBody (mth 9 7)) (defScope (mth 9 7)) [] [] a_Words_integer fd_Words_integer
  a_made_channel : Addr
  fd_made_channel : FuncData
  F_made_channel : FunD K "made_channel" "made_channel" (defArgs (top 18)) (defBody (top 18)) (defScope (top 18)) [] [] a_made_channel fd_made_channel
  g_made_channel : mg "made_channel" = some (.ref a_made_channel)
  a_Channel___and__ : Addr
  fd_Channel___and__ : FuncData
  F_Channel___and__ : FunD K "__and__" "Channel.__and__" (defArgs (mth 19 9)) (defBody (mth 19 9)) (defScope (mth 19 9)) [] [] a_Channel___and__ fd_Channel___and__
  a_Channel___or__ : Addr
  fd_Channel___or__ : FuncData
  F_Channel___or__ : FunD K "__or__" "Channel.__or__" (defArgs (mth 19 10)) (defBody (mth 19 10)) (defScope (mth 19 10)) [] [] a_Channel___or__ fd_Channel___or__
  a_channel_from : Addr
  fd_channel_from : FuncData
  F_channel_from : FunD K "channel_from" "channel_from" (defArgs (top 21)) (defBody (top 21)) (defScope (top 21)) [] [] a_channel_from fd_channel_from
  g_channel_from : mg "channel_from" = some (.ref a_channel_from)
  a_Channel___add__ : Addr
  fd_Channel___add__ : FuncData
  F_Channel___add__ : FunD K "__add__" "Channel.__add__" (defArgs (mth 19 7)) (defBody (mth 19 7)) (defScope (mth 19 7)) [] [] a_Channel___add__ fd_Channel___add__
  a_Channel_read : Addr
  fd_Channel_read : FuncData
  F_Channel_read : FunD K "read" "Channel.read" (defArgs (mth 19 14)) (defBody (mth 19 14)) (defScope (mth 19 14)) [] [] a_Channel_read fd_Channel_read
  a__law_heard : Addr
  fd__law_heard : FuncData
  F__law_heard : FunD K "_law_heard" "_law_heard" (defArgs (top 30)) (defBody (top 30)) (defScope (top 30)) [] [] a__law_heard fd__law_heard
  g__law_heard : mg "_law_heard" = some (.ref a__law_heard)
  a_Channel___iter__ : Addr
  fd_Channel___iter__ : FuncData
  F_Channel___iter__ : FunD K "__iter__" "Channel.__iter__" (defArgs (mth 19 5)) (defBody (mth 19 5)) (defScope (mth 19 5)) [] [] a_Channel___iter__ fd_Channel___iter__
  b_isinstance : mg "isinstance" = none
  b_int : mg "int" = none
  b_bool : mg "bool" = none
  b_str : mg "str" = none
  b_len : mg "len" = none
  b_all : mg "all" = none
  b_set : mg "set" = none
  b_tuple : mg "tuple" = none
  b_range : mg "range" = none
  b_sum : mg "sum" = none
  b_iter : mg "iter" = none
  b_list : mg "list" = none
  b_abs : mg "abs" = none
  b_ValueError : mg "ValueError" = none
  b_repr : mg "repr" = none
  b_min : mg "min" = none
  b_max : mg "max" = none
  fl_LinkError : G.flds 0 = ([] : List Str)
  gc_LinkError : mg "LinkError" = some (.ref (G.cls 0))
  gg_LinkError : mg "LinkError" = some (.ref (G.glo 0))
  xf_LinkError : XcF G 0
  fl_BadChannel : G.flds 1 = (["part"] : List Str)
  gc_BadChannel : mg "BadChannel" = some (.ref (G.cls 1))
  gg_BadChannel : mg "BadChannel" = some (.ref (G.glo 1))
  xf_BadChannel : XcF G 1
  fl_BadText : G.flds 2 = (["word", "line"] : List Str)
  gc_BadText : mg "BadText" = some (.ref (G.cls 2))
  gg_BadText : mg "BadText" = some (.ref (G.glo 2))
  xf_BadText : XcF G 2
  fl_Words : G.flds 3 = (["words", "line", "at"] : List Str)
  gc_Words : mg "Words" = some (.ref (G.cls 3))
  gg_Words : mg "Words" = some (.ref (G.glo 3))
  cl_Words : Cls G.K (G.cls 3)
  cf_Words : ClsF G 3
  mk_Words : Mk G.K (G.cls 3) a_Words___init__
  fl_Fault : G.flds 4 = ([] : List Str)
  gc_Fault : mg "Fault" = some (.ref (G.cls 4))
  gg_Fault : mg "Fault" = some (.ref (G.glo 4))
  cl_Fault : Cls G.K (G.cls 4)
  cf_Fault : ClsF G 4
  fl_Loses : G.flds 5 = ([] : List Str)
  gc_Loses : mg "Loses" = some (.ref (G.cls 5))
  gg_Loses : mg "Loses" = some (.ref (G.glo 5))
  cl_Loses : Cls G.K (G.cls 5)
  cf_Loses : ClsF G 5
  fl_Doubles : G.flds 6 = ([] : List Str)
  gc_Doubles : mg "Doubles" = some (.ref (G.cls 6))
  gg_Doubles : mg "Doubles" = some (.ref (G.glo 6))
  cl_Doubles : Cls G.K (G.cls 6)
  cf_Doubles : ClsF G 6
  fl_Overtakes : G.flds 7 = (["by"] : List Str)
  gc_Overtakes : mg "Overtakes" = some (.ref (G.cls 7))
  gg_Overtakes : mg "Overtakes" = some (.ref (G.glo 7))
  cl_Overtakes : Cls G.K (G.cls 7)
  cf_Overtakes : ClsF G 7
  mk_Overtakes : Mk G.K (G.cls 7) a_Overtakes___init__
  fl_Channel : G.flds 8 = (["capacity", "faults"] : List Str)
  gc_Channel : mg "Channel" = some (.ref (G.cls 8))
  gg_Channel : mg "Channel" = some (.ref (G.glo 8))
  cl_Channel : Cls G.K (G.cls 8)
  cf_Channel : ClsF G 8
  mk_Channel : Mk G.K (G.cls 8) a_Channel___init__
  a_BadChannel_i : Addr
  fd_BadChannel_i : FuncData
  F_BadChannel_i : FunD K "__init__" "BadChannel.__init__" (defArgs (mth 6 0)) (defBody (mth 6 0)) (defScope (mth 6 0)) [] [] a_BadChannel_i fd_BadChannel_i
  et_BadChannel : PySem.W.typeIn G.K (.ref a_BadChannel_i) = some (.type "function")
  a_BadText_i : Addr
  fd_BadText_i : FuncData
  F_BadText_i : FunD K "__init__" "BadText.__init__" (defArgs (mth 7 0)) (defBody (mth 7 0)) (defScope (mth 7 0)) [] [] a_BadText_i fd_BadText_i
  et_BadText : PySem.W.typeIn G.K (.ref a_BadText_i) = some (.type "function")
  ex_BadChannel : Mp.ExC G 1 ["part"]
  ei_BadChannel : PySem.W.findIn G.K (.ref (G.cls 1)) "__init__" = some (some (.ref a_BadChannel_i))
  ex_BadText : Mp.ExC G 2 ["line", "word"]
  ei_BadText : PySem.W.findIn G.K (.ref (G.cls 2)) "__init__" = some (some (.ref a_BadText_i))
  p_Channel_doubles : Addr
  po_Channel_doubles : PropOf G.K (G.cls 8) "doubles" p_Channel_doubles a_Channel_doubles
  p_Channel_loses : Addr
  po_Channel_loses : PropOf G.K (G.cls 8) "loses" p_Channel_loses a_Channel_loses
  p_Channel_overtakes : Addr
  po_Channel_overtakes : PropOf G.K (G.cls 8) "overtakes" p_Channel_overtakes a_Channel_overtakes
  cr_Channel : ClX.CRead G.K (G.glo 8) (.type "type")
  cv_Channel_MOST : ∃ u, ClX.CVal G.K (G.glo 8) (.type "type") "MOST" (V.int (3)) u
  co_Doubles_ORDER : ∃ u, Con G.K (G.cls 6) "ORDER" (V.int (1)) u
  co_Loses_ORDER : ∃ u, Con G.K (G.cls 5) "ORDER" (V.int (0)) u
  co_Overtakes_ORDER : ∃ u, Con G.K (G.cls 7) "ORDER" (V.int (2)) u
  mk0_Doubles : Mk0 G.K (G.cls 6)
  mk0_Loses : Mk0 G.K (G.cls 5)
  me_Words_ask : Meth G.K (G.cls 3) "ask" a_Words_ask
  me_Words_close : Meth G.K (G.cls 3) "close" a_Words_close
  me_Words_integer : Meth G.K (G.cls 3) "integer" a_Words_integer
  me_Words_one_of : Meth G.K (G.cls 3) "one_of" a_Words_one_of
  me_Words_peek : Meth G.K (G.cls 3) "peek" a_Words_peek
  me_Words_read_if : Meth G.K (G.cls 3) "read_if" a_Words_read_if
  df_Channel___contains__ : PySem.W.findIn G.K (.ref (G.cls 8)) "__contains__" = some (some (.ref a_Channel___contains__))
  isf_Channel___contains__ : PySem.W.isFn G.K (.ref a_Channel___contains__) = true
  df_Channel___eq__ : PySem.W.findIn G.K (.ref (G.cls 8)) "__eq__" = some (some (.ref a_Channel___eq__))
  isf_Channel___eq__ : PySem.W.isFn G.K (.ref a_Channel___eq__) = true
  df_Channel___iter__ : PySem.W.findIn G.K (.ref (G.cls 8)) "__iter__" = some (some (.ref a_Channel___iter__))
  isf_Channel___iter__ : PySem.W.isFn G.K (.ref a_Channel___iter__) = true
  df_Channel___or__ : PySem.W.findIn G.K (.ref (G.cls 8)) "__or__" = some (some (.ref a_Channel___or__))
  isf_Channel___or__ : PySem.W.isFn G.K (.ref a_Channel___or__) = true
  df_Channel___str__ : PySem.W.findIn G.K (.ref (G.cls 8)) "__str__" = some (some (.ref a_Channel___str__))
  isf_Channel___str__ : PySem.W.isFn G.K (.ref a_Channel___str__) = true
  df_Doubles___eq__ : PySem.W.findIn G.K (.ref (G.cls 6)) "__eq__" = some (some (.ref a_Doubles___eq__))
  isf_Doubles___eq__ : PySem.W.isFn G.K (.ref a_Doubles___eq__) = true
  df_Doubles___str__ : PySem.W.findIn G.K (.ref (G.cls 6)) "__str__" = some (some (.ref a_Doubles___str__))
  isf_Doubles___str__ : PySem.W.isFn G.K (.ref a_Doubles___str__) = true
  df_Fault___eq__ : PySem.W.findIn G.K (.ref (G.cls 4)) "__eq__" = some (some (.ref a_Fault___eq__))
  isf_Fault___eq__ : PySem.W.isFn G.K (.ref a_Fault___eq__) = true
  df_Fault___str__ : PySem.W.findIn G.K (.ref (G.cls 4)) "__str__" = some (some (.ref a_Fault___str__))
  isf_Fault___str__ : PySem.W.isFn G.K (.ref a_Fault___str__) = true
  df_Loses___eq__ : PySem.W.findIn G.K (.ref (G.cls 5)) "__eq__" = some (some (.ref a_Loses___eq__))
  isf_Loses___eq__ : PySem.W.isFn G.K (.ref a_Loses___eq__) = true
  df_Loses___str__ : PySem.W.findIn G.K (.ref (G.cls 5)) "__str__" = some (some (.ref a_Loses___str__))
  isf_Loses___str__ : PySem.W.isFn G.K (.ref a_Loses___str__) = true
  df_Overtakes___eq__ : PySem.W.findIn G.K (.ref (G.cls 7)) "__eq__" = some (some (.ref a_Overtakes___eq__))
  isf_Overtakes___eq__ : PySem.W.isFn G.K (.ref a_Overtakes___eq__) = true
  df_Overtakes___str__ : PySem.W.findIn G.K (.ref (G.cls 7)) "__str__" = some (some (.ref a_Overtakes___str__))
  isf_Overtakes___str__ : PySem.W.isFn G.K (.ref a_Overtakes___str__) = true
  ne_Channel : PySem.W.findIn G.K (.ref (G.cls 8)) "__ne__" = some (some (.builtin "object.__ne__"))
  ne_Doubles : PySem.W.findIn G.K (.ref (G.cls 6)) "__ne__" = some (some (.builtin "object.__ne__"))
  ne_Fault : PySem.W.findIn G.K (.ref (G.cls 4)) "__ne__" = some (some (.builtin "object.__ne__"))
  ne_Loses : PySem.W.findIn G.K (.ref (G.cls 5)) "__ne__" = some (some (.builtin "object.__ne__"))
  ne_Overtakes : PySem.W.findIn G.K (.ref (G.cls 7)) "__ne__" = some (some (.builtin "object.__ne__"))
  op_or : OpL G "or" [8] [3, 4, 5, 6, 7]
  k_MOST_OVERTAKEN : ∃ u, mg "MOST_OVERTAKEN" = some u ∧ RelV (V.int (2)) u
structure Tl {w : World} {K : PySem.W.Frag} {mg : Str → Option Value} {B : Gb} (T : Tp w K mg B) (base : Heap) (l : List (Addr × Str)) : Prop where
  tb__law_refused_right : LamX.TabB base mg T.c__law_refused_right T.P__law_refused_right
  hm__law_refused_right : (T.P__law_refused_right, (("_law_refused_right" : Str) ++ ".<locals>." ++ "<lambda>")) ∈ l
  hu__law_refused_right : ∀ p ∈ l, p.1 = T.P__law_refused_right → p.2 = (("_law_refused_right" : Str) ++ ".<locals>." ++ "<lambda>")
section
variable {P : Program} {w : World} {K : PySem.W.Frag} {mg : Str → Option Value} {base : Heap} {G : Gi}
theorem sc_BadChannel_i : FnScope ["self", "part"] ["self", "part"] (defScope (mth 6 0)) := ⟨rfl, rfl, rfl, by decide +kernel, rfl, by decide +kernel, by decide +kernel⟩
theorem Tp.xb_BadChannel (T : Tp w K mg G.toGb) : Binds K T.fd_BadChannel_i ["self", "part"] [] := T.F_BadChannel_i.bindsN fun _ _ _ _ _ _ us hl => match us, hl with | [_, _], _ => rfl
theorem Tp.xi_BadChannel (T : Tp w K mg G.toGb) : FnOk P w K mg base (CX P w) 1 T.a_BadChannel_i T.fd_BadChannel_i ["self", "part"] (spEx (G.cls 1) ["part"]) :=
  T.F_BadChannel_i.ok sc_BadChannel_i (fun vs H Q E h => by obtain ⟨a, ws, rfl, hl, _⟩ := h; simp at hl; simp [hl]) fun cdv A outer s H vs Q E hr h => ⟨_, (pss_one (ps_ost (pv 0) (pv 1))), exi1 (σ := []) (T.hK ▸ T.ex_BadChannel.ox) (T.hK ▸ T.ex_BadChannel.no "part" (by simp)) h⟩
theorem sc_BadText_i : FnScope ["self", "line", "word"] ["self", "line", "word"] (defScope (mth 7 0)) := ⟨rfl, rfl, rfl, by decide +kernel, rfl, by decide +kernel, by decide +kernel⟩
theorem Tp.xb_BadText (T : Tp w K mg G.toGb) : Binds K T.fd_BadText_i ["self", "line", "word"] [] := T.F_BadText_i.bindsN fun _ _ _ _ _ _ us hl => match us, hl with | [_, _, _], _ => rfl
theorem Tp.xi_BadText (T : Tp w K mg G.toGb) : FnOk P w K mg base (CX P w) 1 T.a_BadText_i T.fd_BadText_i ["self", "line", "word"] (spEx (G.cls 2) ["line", "word"]) :=
  T.F_BadText_i.ok sc_BadText_i (fun vs H Q E h => by obtain ⟨a, ws, rfl, hl, _⟩ := h; simp at hl; simp [hl]) fun cdv A outer s H vs Q E hr h => ⟨_, (pss_cons (ps_ost (pv 0) (pv 1)) (pss_one (ps_ost (pv 0) (pv 2)))), exi2 (σ := []) (T.hK ▸ T.ex_BadText.ox) (T.hK ▸ T.ex_BadText.no "line" (by simp)) (T.hK ▸ T.ex_BadText.no "word" (by simp)) h⟩
def v__wall : BM := fnM 0 (sWhile (tst (cst (.bl true))) sNop)
theorem sc__wall : FnScope ["k"] ["k"] (defScope (top 0)) := ⟨rfl, rfl, rfl, by decide +kernel, rfl, by decide +kernel, by decide +kernel⟩
theorem Tp.o__wall (T : Tp w K mg G.toGb) : FnO P w K mg base (CX P w) 1 T.a__wall T.fd__wall ["k"] (spN G 1 v__wall) :=
  fn_up T.F__wall sc__wall rfl fun cdv A outer s H E hr =>
    have S := sc__wall
    (ss_one (s_while passes_cx (t_val T.hK (e_c pe_bl fun _ _ => rfl)) (ss_one s_pass)))
theorem Tp.r0__wall (T : Tp w K mg G.toGb) : FnG P w K mg base (CX P w) 1 T.a__wall (spR G (defM 1 [] v__wall)) :=
  fn_raw (dvs := []) (T.o__wall) (T.F__wall.bindsN fun _ _ _ _ _ _ us hl => match us, hl with | [_], _ => rfl) .nil fun _ _ => rfl
def v_is_integer : BM := fnM 0 (sRet (vAnd (eCall (isiA 9 clsX clsSub) (aCons (vget 0) (aCons (cst (.ty "int")) aNil))) (vNot (eCall (isiA 9 clsX clsSub) (aCons (vget 0) (aCons (cst (.ty "bool")) aNil))))))
theorem sc_is_integer : FnScope ["value"] ["value"] (defScope (top 2)) := ⟨rfl, rfl, rfl, by decide +kernel, rfl, by decide +kernel, by decide +kernel⟩
theorem Tp.o_is_integer (T : Tp w K mg G.toGb) : FnO P w K mg base (CX P w) 1 T.a_is_integer T.fd_is_integer ["value"] (spN G 1 v_is_integer) :=
  fn_up T.F_is_integer sc_is_integer rfl fun cdv A outer s H E hr =>
    have S := sc_is_integer
    (ss_one (s_ret (e_and T.hK (e_callB (c_isiA T.hK T.kit T.xcf) rfl T.b_isinstance boot_isinstance (a_cons (e_var (pv 0)) (a_cons (e_ty rfl T.b_int PySem.Pv.boot_int) a_nil))) (e_one (e_not T.hK (e_callB (c_isiA T.hK T.kit T.xcf) rfl T.b_isinstance boot_isinstance (a_cons (e_var (pv 0)) (a_cons (e_ty rfl T.b_bool boot_bool) a_nil))))))))
theorem Tp.r0_is_integer (T : Tp w K mg G.toGb) : FnG P w K mg base (CX P w) 1 T.a_is_integer (spR G (defM 1 [] v_is_integer)) :=
  fn_raw (dvs := []) (T.o_is_integer) (T.F_is_integer.bindsN fun _ _ _ _ _ _ us hl => match us, hl with | [_], _ => rfl) .nil fun _ _ => rfl
def v_is_within_s0 : SM := (sIf (mOr (mNot (tst (eFn (defM 1 [] v_is_integer) (aCons (vget 0) aNil)))) (mOr (mNot (tst (eFn (defM 1 [] v_is_integer) (aCons (vget 1) aNil)))) (mNot (tst (eFn (defM 1 [] v_is_integer) (aCons (vget 2) aNil)))))) (sRet (cst (.bl false))) sNop)
def v_is_within_s1 : SM := (sRet (chn (leI) (leI) (vget 1) (vget 0) (vget 2)))
def v_is_within : BM := fnM 0 (sSeq v_is_within_s0 v_is_within_s1)
theorem sc_is_within : FnScope ["value", "least", "most"] ["value", "least", "most"] (defScope (top 3)) := ⟨rfl, rfl, rfl, by decide +kernel, rfl, by decide +kernel, by decide +kernel⟩
theorem Tp.o_is_within (T : Tp w K mg G.toGb) : FnO P w K mg base (CX P w) 2 T.a_is_within T.fd_is_within ["value", "least", "most"] (spN G 3 v_is_within) :=
  fn_up T.F_is_within sc_is_within rfl fun cdv A outer s H E hr =>
    have S := sc_is_within
    (ss_cons (s_if (PW.pt (w_or (t_not (t_val T.hK (e_call takes_cx (T.r0_is_integer (G := G)) (hr.mono (by decide)) rfl T.g_is_integer T.F_is_integer.kp (a_cons (e_var (pv 0)) a_nil)))) (w_or (t_not (t_val T.hK (e_call takes_cx (T.r0_is_integer (G := G)) (hr.mono (by decide)) rfl T.g_is_integer T.F_is_integer.kp (a_cons (e_var (pv 1)) a_nil)))) (w_or1 (t_not (t_val T.hK (e_call takes_cx (T.r0_is_integer (G := G)) (hr.mono (by decide)) rfl T.g_is_integer T.F_is_integer.kp (a_cons (e_var (pv 2)) a_nil)))))))) (ss_one (s_ret (e_c pe_bl fun _ _ => rfl))) ss_nil)
  (ss_one (s_ret (e_chain o_leI o_leI (e_var (pv 1)) (e_var (pv 0)) (e_var (pv 2))))))
theorem Tp.r0_is_within (T : Tp w K mg G.toGb) : FnG P w K mg base (CX P w) 2 T.a_is_within (spR G (defM 3 [] v_is_within)) :=
  fn_raw (dvs := []) (T.o_is_within) (T.F_is_within.bindsN fun _ _ _ _ _ _ us hl => match us, hl with | [_, _, _], _ => rfl) .nil fun _ _ => rfl
def st0_words : Nat → Option Nat := fun c => if c = 3 then some 0 else none
theorem Tp.t_st0_words (T : Tp w K mg G.toGb) : ∀ c i, st0_words c = some i → ClsF G c ∧ (G.flds c)[i]? = some "words" := by
  intro c i e
  unfold st0_words at e
  by_cases h0 : c = 3
  · rw [if_pos h0] at e; cases e; subst h0; exact ⟨T.cf_Words, by rw [T.fl_Words]; rfl⟩
  rw [if_neg h0] at e
  cases e
def st1_line : Nat → Option Nat := fun c => if c = 3 then some 1 else none
theorem Tp.t_st1_line (T : Tp w K mg G.toGb) : ∀ c i, st1_line c = some i → ClsF G c ∧ (G.flds c)[i]? = some "line" := by
  intro c i e
  unfold st1_line at e
  by_cases h0 : c = 3
  · rw [if_pos h0] at e; cases e; subst h0; exact ⟨T.cf_Words, by rw [T.fl_Words]; rfl⟩
  rw [if_neg h0] at e
  cases e
def st2_at : Nat → Option Nat := fun c => if c = 3 then some 2 else none
theorem Tp.t_st2_at (T : Tp w K mg G.toGb) : ∀ c i, st2_at c = some i → ClsF G c ∧ (G.flds c)[i]? = some "at" := by
  intro c i e
  unfold st2_at at e
  by_cases h0 : c = 3
  · rw [if_pos h0] at e; cases e; subst h0; exact ⟨T.cf_Words, by rw [T.fl_Words]; rfl⟩
  rw [if_neg h0] at e
  cases e
def v_Words___init___s0 : SM := (sIf (mNot (tst (eCall (isiA 9 clsX clsSub) (aCons (vget 1) (aCons (cst (.ty "str")) aNil))))) (sRaise 2 2 (aCons (cst (.int 0)) (aCons (cst (.int 0)) aNil))) sNop)
def v_Words___init___s1 : SM := (sFld st0_words (vget 0) (eBM isS splitM (vget 1) (aCons (cst (.str " ")) aNil)))
def v_Words___init___s2 : SM := (sFld st1_line (vget 0) (vget 2))
def v_Words___init___s3 : SM := (sFld st2_at (vget 0) (cst (.int 0)))
def v_Words___init__ : BM := fnM 0 (sSeq v_Words___init___s0 (sSeq v_Words___init___s1 (sSeq v_Words___init___s2 v_Words___init___s3)))
theorem sc_Words___init__ : FnScope ["self", "text", "line"] ["self", "text", "line"] (defScope (mth 9 0)) := ⟨rfl, rfl, rfl, by decide +kernel, rfl, by decide +kernel, by decide +kernel⟩
theorem Tp.o_Words___init__ (T : Tp w K mg G.toGb) : FnO P w K mg base (CX P w) 3 T.a_Words___init__ T.fd_Words___init__ ["self", "text", "line"] (spN G 3 v_Words___init__) :=
  fn_up T.F_Words___init__ sc_Words___init__ rfl fun cdv A outer s H E hr =>
    have S := sc_Words___init__
    (ss_cons (s_if (t_not (t_val T.hK (e_callB (c_isiA T.hK T.kit T.xcf) rfl T.b_isinstance boot_isinstance (a_cons (e_var (pv 1)) (a_cons (e_ty rfl T.b_str boot_str) a_nil))))) (ss_one (s_raise (fl := ["line", "word"]) takes_cx T.hK T.ex_BadText rfl (by decide) (by decide) T.ei_BadText T.et_BadText (T.xi_BadText) (hr.mono (by decide)) T.xb_BadText rfl T.gc_BadText (a_cons (e_c pe_int fun _ _ => rfl) (a_cons (e_c pe_int fun _ _ => rfl) a_nil)))) ss_nil)
  (ss_cons (s_fld T.hK T.t_st0_words (e_var (pv 0)) (e_bmS (pe_bm PySem.F.plainAttrs_str PySem.F.slot_str_split PySem.F.type_str_split m_split (e_var (pv 1)) (a_cons (e_c pe_str fun _ _ => rfl) a_nil))))
  (ss_cons (s_fld T.hK T.t_st1_line (e_var (pv 0)) (e_var (pv 2)))
  (ss_one (s_fld T.hK T.t_st2_at (e_var (pv 0)) (e_c pe_int fun _ _ => rfl))))))
theorem Tp.r0_Words___init__ (T : Tp w K mg G.toGb) : FnG P w K mg base (CX P w) 3 T.a_Words___init__ (spR G (defM 3 [] v_Words___init__)) :=
  let ⟨ds, h1, h2⟩ := T.F_Words___init__.binds1 3 1 (by simp) rfl (fun T D doc pm an cdv ct us its h1 h2 => match us, its, h1, h2 with | [_, _, _], [_], _, _ => ⟨_, rfl, rfl⟩)
  fn_raw (dws := []) (T.o_Words___init__) h2 h1 fun _ _ => rfl
theorem Tp.r1_Words___init__ (T : Tp w K mg G.toGb) : FnG P w K mg base (CX P w) 3 T.a_Words___init__ (spR G (defM 3 [(W.int (0))] v_Words___init__)) :=
  let ⟨ds, h1, h2⟩ := T.F_Words___init__.binds1 2 0 (by simp) rfl (fun T D doc pm an cdv ct us its h1 h2 => match us, its, h1, h2 with | [_, _], [_], _, _ => ⟨_, rfl, rfl⟩)
  fn_raw (dws := [(W.int (0))]) (T.o_Words___init__) h2 h1 fun _ _ => ⟨_, _, rfl, rfl, rfl⟩
def at3_at : Nat → At := fun c => if c = 3 then At.fld 2 else At.no
def at3_atx : Nat → Option Nat := fun c => none
theorem Tp.t_at3_at (T : Tp w K mg G.toGb) : ∀ c, AtOk P w mg base G 0 "at" c (at3_at c) := by
  intro c
  unfold at3_at
  by_cases h0 : c = 3
  · rw [if_pos h0]; subst h0; exact ⟨T.cf_Words, by rw [T.fl_Words]; rfl⟩
  rw [if_neg h0]
  exact trivial
theorem Tp.t_at3_atx (T : Tp w K mg G.toGb) : ∀ c i, at3_atx c = some i → XcF G c ∧ (G.flds c)[i]? = some "at" := by
  intro c i e
  unfold at3_atx at e
  cases e
def at4_words : Nat → At := fun c => if c = 3 then At.fld 0 else At.no
def at4_wordsx : Nat → Option Nat := fun c => none
theorem Tp.t_at4_words (T : Tp w K mg G.toGb) : ∀ c, AtOk P w mg base G 0 "words" c (at4_words c) := by
  intro c
  unfold at4_words
  by_cases h0 : c = 3
  · rw [if_pos h0]; subst h0; exact ⟨T.cf_Words, by rw [T.fl_Words]; rfl⟩
  rw [if_neg h0]
  exact trivial
theorem Tp.t_at4_wordsx (T : Tp w K mg G.toGb) : ∀ c i, at4_wordsx c = some i → XcF G c ∧ (G.flds c)[i]? = some "words" := by
  intro c i e
  unfold at4_wordsx at e
  cases e
def v_Words_peek_s0 : SM := (sIf (tB1 (bin (datE false) (eAx at3_at at3_atx (vget 0)) (eCall (b1 lenW) (aCons (eAx at4_words at4_wordsx (vget 0)) aNil)))) (sRet (cst .non)) sNop)
def v_Words_peek_s1 : SM := (sRet (bin ixW (eAx at4_words at4_wordsx (vget 0)) (eAx at3_at at3_atx (vget 0))))
def v_Words_peek : BM := fnM 0 (sSeq v_Words_peek_s0 v_Words_peek_s1)
theorem sc_Words_peek : FnScope ["self"] ["self"] (defScope (mth 9 1)) := ⟨rfl, rfl, rfl, by decide +kernel, rfl, by decide +kernel, by decide +kernel⟩
theorem Tp.o_Words_peek (T : Tp w K mg G.toGb) : FnO P w K mg base (CX P w) 2 T.a_Words_peek T.fd_Words_peek ["self"] (spN G 1 v_Words_peek) :=
  fn_up T.F_Words_peek sc_Words_peek rfl fun cdv A outer s H E hr =>
    have S := sc_Words_peek
    (ss_cons (s_if (t_cmp (o_datE T.hK hr.units) (e_ax takes_cx T.hK (hr.mono (by decide)) (T.t_at3_at (G := G)) (T.t_at3_atx (G := G)) (e_var (pv 0))) (e_callB (c_len T.hK) rfl T.b_len boot_len (a_cons (e_ax takes_cx T.hK (hr.mono (by decide)) (T.t_at4_words (G := G)) (T.t_at4_wordsx (G := G)) (e_var (pv 0))) a_nil)) (nomark _)) (ss_one (s_ret (e_c pe_non fun _ _ => rfl))) ss_nil)
  (ss_one (s_ret (e_ix T.hK (e_ax takes_cx T.hK (hr.mono (by decide)) (T.t_at4_words (G := G)) (T.t_at4_wordsx (G := G)) (e_var (pv 0))) (e_ax takes_cx T.hK (hr.mono (by decide)) (T.t_at3_at (G := G)) (T.t_at3_atx (G := G)) (e_var (pv 0))) (fun _ _ => rfl)))))
theorem Tp.r0_Words_peek (T : Tp w K mg G.toGb) : FnG P w K mg base (CX P w) 2 T.a_Words_peek (spR G (defM 1 [] v_Words_peek)) :=
  fn_raw (dvs := []) (T.o_Words_peek) (T.F_Words_peek.bindsN fun _ _ _ _ _ _ us hl => match us, hl with | [_], _ => rfl) .nil fun _ _ => rfl
def me5_peek : Nat → Option BM := fun c => if c = 3 then some (defM 1 [] v_Words_peek) else none
theorem Tp.t_me5_peek (T : Tp w K mg G.toGb) : ∀ c, MeOk P w mg base G 2 "peek" c (me5_peek c) := by
  intro c
  unfold me5_peek
  by_cases h0 : c = 3
  · rw [if_pos h0]; subst h0; exact ⟨T.cl_Words, by rw [T.fl_Words]; decide, T.a_Words_peek, T.me_Words_peek, by rw [T.hK]; exact fnUp (j := 2) (by decide) (T.r0_Words_peek (G := G))⟩
  rw [if_neg h0]
  exact trivial
def v_Words_ask_s0 : SM := (sIf (tB1 (bin (datE true) (eMe me5_peek (vget 0) aNil) (vget 1))) (sRet (cst (.bl false))) sNop)
def v_Words_ask_s1 : SM := (sFld st2_at (vget 0) (bin addW (eAx at3_at at3_atx (vget 0)) (cst (.int 1))))
def v_Words_ask_s2 : SM := (sRet (cst (.bl true)))
def v_Words_ask : BM := fnM 0 (sSeq v_Words_ask_s0 (sSeq v_Words_ask_s1 v_Words_ask_s2))
theorem sc_Words_ask : FnScope ["self", "word"] ["self", "word"] (defScope (mth 9 2)) := ⟨rfl, rfl, rfl, by decide +kernel, rfl, by decide +kernel, by decide +kernel⟩
theorem Tp.o_Words_ask (T : Tp w K mg G.toGb) : FnO P w K mg base (CX P w) 3 T.a_Words_ask T.fd_Words_ask ["self", "word"] (spN G 2 v_Words_ask) :=
  fn_up T.F_Words_ask sc_Words_ask rfl fun cdv A outer s H E hr =>
    have S := sc_Words_ask
    (ss_cons (s_if (t_cmp (o_datN T.hK hr.units) (e_me0 takes_cx T.hK (hr.mono (by decide)) (T.t_me5_peek (G := G)) (e_var (pv 0))) (e_var (pv 1)) (nomark _)) (ss_one (s_ret (e_c pe_bl fun _ _ => rfl))) ss_nil)
  (ss_cons (s_fld T.hK T.t_st2_at (e_var (pv 0)) (e_bin (o_add T.hK) (e_ax takes_cx T.hK (hr.mono (by decide)) (T.t_at3_at (G := G)) (T.t_at3_atx (G := G)) (e_var (pv 0))) (e_c pe_int fun _ _ => rfl)))
  (ss_one (s_ret (e_c pe_bl fun _ _ => rfl)))))
theorem Tp.r0_Words_ask (T : Tp w K mg G.toGb) : FnG P w K mg base (CX P w) 3 T.a_Words_ask (spR G (defM 2 [] v_Words_ask)) :=
  fn_raw (dvs := []) (T.o_Words_ask) (T.F_Words_ask.bindsN fun _ _ _ _ _ _ us hl => match us, hl with | [_, _], _ => rfl) .nil fun _ _ => rfl
def at6_line : Nat → At := fun c => if c = 3 then At.fld 1 else At.no
def at6_linex : Nat → Option Nat := fun c => if c = 2 then some 1 else none
theorem Tp.t_at6_line (T : Tp w K mg G.toGb) : ∀ c, AtOk P w mg base G 0 "line" c (at6_line c) := by
  intro c
  unfold at6_line
  by_cases h0 : c = 3
  · rw [if_pos h0]; subst h0; exact ⟨T.cf_Words, by rw [T.fl_Words]; rfl⟩
  rw [if_neg h0]
  exact trivial
theorem Tp.t_at6_linex (T : Tp w K mg G.toGb) : ∀ c i, at6_linex c = some i → XcF G c ∧ (G.flds c)[i]? = some "line" := by
  intro c i e
  unfold at6_linex at e
  by_cases h0 : c = 2
  · rw [if_pos h0] at e; cases e; subst h0; exact ⟨T.xf_BadText, by rw [T.fl_BadText]; rfl⟩
  rw [if_neg h0] at e
  cases e
def v_Words_read_if_s0 : SM := (sIf (mNot (tst (vget 1))) (sRaise 2 2 (aCons (eAx at6_line at6_linex (vget 0)) (aCons (eAx at3_at at3_atx (vget 0)) aNil))) sNop)
def v_Words_read_if_s1 : SM := (sFld st2_at (vget 0) (bin addW (eAx at3_at at3_atx (vget 0)) (cst (.int 1))))
def v_Words_read_if_s2 : SM := (sRet (bin ixW (eAx at4_words at4_wordsx (vget 0)) (bin subW (eAx at3_at at3_atx (vget 0)) (cst (.int 1)))))
def v_Words_read_if : BM := fnM 0 (sSeq v_Words_read_if_s0 (sSeq v_Words_read_if_s1 v_Words_read_if_s2))
theorem sc_Words_read_if : FnScope ["self", "fits"] ["self", "fits"] (defScope (mth 9 4)) := ⟨rfl, rfl, rfl, by decide +kernel, rfl, by decide +kernel, by decide +kernel⟩
theorem Tp.o_Words_read_if (T : Tp w K mg G.toGb) : FnO P w K mg base (CX P w) 3 T.a_Words_read_if T.fd_Words_read_if ["self", "fits"] (spN G 2 v_Words_read_if) :=
  fn_up T.F_Words_read_if sc_Words_read_if rfl fun cdv A outer s H E hr =>
    have S := sc_Words_read_if
    (ss_cons (s_if (t_not (t_val T.hK (e_var (pv 1)))) (ss_one (s_raise (fl := ["line", "word"]) takes_cx T.hK T.ex_BadText rfl (by decide) (by decide) T.ei_BadText T.et_BadText (T.xi_BadText) (hr.mono (by decide)) T.xb_BadText rfl T.gc_BadText (a_cons (e_ax takes_cx T.hK (hr.mono (by decide)) (T.t_at6_line (G := G)) (T.t_at6_linex (G := G)) (e_var (pv 0))) (a_cons (e_ax takes_cx T.hK (hr.mono (by decide)) (T.t_at3_at (G := G)) (T.t_at3_atx (G := G)) (e_var (pv 0))) a_nil)))) ss_nil)
  (ss_cons (s_fld T.hK T.t_st2_at (e_var (pv 0)) (e_bin (o_add T.hK) (e_ax takes_cx T.hK (hr.mono (by decide)) (T.t_at3_at (G := G)) (T.t_at3_atx (G := G)) (e_var (pv 0))) (e_c pe_int fun _ _ => rfl)))
  (ss_one (s_ret (e_ix T.hK (e_ax takes_cx T.hK (hr.mono (by decide)) (T.t_at4_words (G := G)) (T.t_at4_wordsx (G := G)) (e_var (pv 0))) (e_bin o_sub (e_ax takes_cx T.hK (hr.mono (by decide)) (T.t_at3_at (G := G)) (T.t_at3_atx (G := G)) (e_var (pv 0))) (e_c pe_int fun _ _ => rfl)) (fun _ _ => rfl))))))
theorem Tp.r0_Words_read_if (T : Tp w K mg G.toGb) : FnG P w K mg base (CX P w) 3 T.a_Words_read_if (spR G (defM 2 [] v_Words_read_if)) :=
  fn_raw (dvs := []) (T.o_Words_read_if) (T.F_Words_read_if.bindsN fun _ _ _ _ _ _ us hl => match us, hl with | [_, _], _ => rfl) .nil fun _ _ => rfl
def me7_read_if : Nat → Option BM := fun c => if c = 3 then some (defM 2 [] v_Words_read_if) else none
theorem Tp.t_me7_read_if (T : Tp w K mg G.toGb) : ∀ c, MeOk P w mg base G 3 "read_if" c (me7_read_if c) := by
  intro c
  unfold me7_read_if
  by_cases h0 : c = 3
  · rw [if_pos h0]; subst h0; exact ⟨T.cl_Words, by rw [T.fl_Words]; decide, T.a_Words_read_if, T.me_Words_read_if, by rw [T.hK]; exact fnUp (j := 3) (by decide) (T.r0_Words_read_if (G := G))⟩
  rw [if_neg h0]
  exact trivial
def v_Words_some : BM := fnM 0 (sRet (eMe me7_read_if (vget 0) (aCons (vAnd (bin (isW true) (eMe me5_peek (vget 0) aNil) (cst .non)) (bin (datE true) (eMe me5_peek (vget 0) aNil) (cst (.str "")))) aNil)))
theorem sc_Words_some : FnScope ["self"] ["self"] (defScope (mth 9 5)) := ⟨rfl, rfl, rfl, by decide +kernel, rfl, by decide +kernel, by decide +kernel⟩
theorem Tp.o_Words_some (T : Tp w K mg G.toGb) : FnO P w K mg base (CX P w) 4 T.a_Words_some T.fd_Words_some ["self"] (spN G 1 v_Words_some) :=
  fn_up T.F_Words_some sc_Words_some rfl fun cdv A outer s H E hr =>
    have S := sc_Words_some
    (ss_one (s_ret (e_me takes_cx T.hK (hr.mono (by decide)) (T.t_me7_read_if (G := G)) (e_var (pv 0)) (a_cons (e_and T.hK (e_cmp o_isnot (e_me0 takes_cx T.hK (hr.mono (by decide)) (T.t_me5_peek (G := G)) (e_var (pv 0))) (e_c pe_non fun _ _ => rfl) (nomark _)) (e_one (e_cmp (o_datN T.hK hr.units) (e_me0 takes_cx T.hK (hr.mono (by decide)) (T.t_me5_peek (G := G)) (e_var (pv 0))) (e_c pe_str fun _ _ => rfl) (nomark _)))) a_nil))))
theorem Tp.r0_Words_some (T : Tp w K mg G.toGb) : FnG P w K mg base (CX P w) 4 T.a_Words_some (spR G (defM 1 [] v_Words_some)) :=
  fn_raw (dvs := []) (T.o_Words_some) (T.F_Words_some.bindsN fun _ _ _ _ _ _ us hl => match us, hl with | [_], _ => rfl) .nil fun _ _ => rfl
def v_Words_close : BM := fnM 0 (sIf (tB1 (bin (els ltI ltS) (eAx at3_at at3_atx (vget 0)) (eCall (b1 lenW) (aCons (eAx at4_words at4_wordsx (vget 0)) aNil)))) (sRaise 2 2 (aCons (eAx at6_line at6_linex (vget 0)) (aCons (eAx at3_at at3_atx (vget 0)) aNil))) sNop)
theorem sc_Words_close : FnScope ["self"] ["self"] (defScope (mth 9 8)) := ⟨rfl, rfl, rfl, by decide +kernel, rfl, by decide +kernel, by decide +kernel⟩
theorem Tp.o_Words_close (T : Tp w K mg G.toGb) : FnO P w K mg base (CX P w) 3 T.a_Words_close T.fd_Words_close ["self"] (spN G 1 v_Words_close) :=
  fn_up T.F_Words_close sc_Words_close rfl fun cdv A outer s H E hr =>
    have S := sc_Words_close
    (ss_one (s_if (t_cmp (o_els o_ltI o_ltS) (e_ax takes_cx T.hK (hr.mono (by decide)) (T.t_at3_at (G := G)) (T.t_at3_atx (G := G)) (e_var (pv 0))) (e_callB (c_len T.hK) rfl T.b_len boot_len (a_cons (e_ax takes_cx T.hK (hr.mono (by decide)) (T.t_at4_words (G := G)) (T.t_at4_wordsx (G := G)) (e_var (pv 0))) a_nil)) (nomark _)) (ss_one (s_raise (fl := ["line", "word"]) takes_cx T.hK T.ex_BadText rfl (by decide) (by decide) T.ei_BadText T.et_BadText (T.xi_BadText) (hr.mono (by decide)) T.xb_BadText rfl T.gc_BadText (a_cons (e_ax takes_cx T.hK (hr.mono (by decide)) (T.t_at6_line (G := G)) (T.t_at6_linex (G := G)) (e_var (pv 0))) (a_cons (e_ax takes_cx T.hK (hr.mono (by decide)) (T.t_at3_at (G := G)) (T.t_at3_atx (G := G)) (e_var (pv 0))) a_nil)))) ss_nil))
theorem Tp.r0_Words_close (T : Tp w K mg G.toGb) : FnG P w K mg base (CX P w) 3 T.a_Words_close (spR G (defM 1 [] v_Words_close)) :=
  fn_raw (dvs := []) (T.o_Words_close) (T.F_Words_close.bindsN fun _ _ _ _ _ _ us hl => match us, hl with | [_], _ => rfl) .nil fun _ _ => rfl
def v_Fault___eq__ : BM := fnM 0 (sRet (vAnd (eCall (isiA 9 clsX clsSub) (aCons (vget 1) (aCons (cst (.glo 4)) aNil))) (bin (datE false) (eCall (b1 (strW noTab)) (aCons (vget 0) aNil)) (eCall (b1 (strW noTab)) (aCons (vget 1) aNil)))))
theorem sc_Fault___eq__ : FnScope ["self", "other"] ["self", "other"] (defScope (mth 12 0)) := ⟨rfl, rfl, rfl, by decide +kernel, rfl, by decide +kernel, by decide +kernel⟩
theorem Tp.o_Fault___eq__ (T : Tp w K mg G.toGb) : FnO P w K mg base (CX P w) 3 T.a_Fault___eq__ T.fd_Fault___eq__ ["self", "other"] (spN G 2 v_Fault___eq__) :=
  fn_up T.F_Fault___eq__ sc_Fault___eq__ rfl fun cdv A outer s H E hr =>
    have S := sc_Fault___eq__
    (ss_one (s_ret (e_and T.hK (e_callB (c_isiA T.hK T.kit T.xcf) rfl T.b_isinstance boot_isinstance (a_cons (e_var (pv 1)) (a_cons (e_glo rfl T.gg_Fault) a_nil))) (e_one (e_cmp (o_datE T.hK hr.units) (e_callTy (c_str T.hK (hr.mono (by decide)) (k := 0) (fun _ => trivial)) rfl T.b_str boot_str (a_cons (e_var (pv 0)) a_nil)) (e_callTy (c_str T.hK (hr.mono (by decide)) (k := 0) (fun _ => trivial)) rfl T.b_str boot_str (a_cons (e_var (pv 1)) a_nil)) (nomark _))))))
theorem Tp.r0_Fault___eq__ (T : Tp w K mg G.toGb) : FnG P w K mg base (CX P w) 3 T.a_Fault___eq__ (spR G (defM 2 [] v_Fault___eq__)) :=
  fn_raw (dvs := []) (T.o_Fault___eq__) (T.F_Fault___eq__.bindsN fun _ _ _ _ _ _ us hl => match us, hl with | [_, _], _ => rfl) .nil fun _ _ => rfl
def v_Fault___str__ : BM := fnM 0 (sRet (cst (.str "")))
theorem sc_Fault___str__ : FnScope ["self"] ["self"] (defScope (mth 12 1)) := ⟨rfl, rfl, rfl, by decide +kernel, rfl, by decide +kernel, by decide +kernel⟩
theorem Tp.o_Fault___str__ (T : Tp w K mg G.toGb) : FnO P w K mg base (CX P w) 1 T.a_Fault___str__ T.fd_Fault___str__ ["self"] (spN G 1 v_Fault___str__) :=
  fn_up T.F_Fault___str__ sc_Fault___str__ rfl fun cdv A outer s H E hr =>
    have S := sc_Fault___str__
    (ss_one (s_ret (e_c pe_str fun _ _ => rfl)))
theorem Tp.r0_Fault___str__ (T : Tp w K mg G.toGb) : FnG P w K mg base (CX P w) 1 T.a_Fault___str__ (spR G (defM 1 [] v_Fault___str__)) :=
  fn_raw (dvs := []) (T.o_Fault___str__) (T.F_Fault___str__.bindsN fun _ _ _ _ _ _ us hl => match us, hl with | [_], _ => rfl) .nil fun _ _ => rfl
def v_Loses___eq__ : BM := fnM 0 (sRet (eCall (isiA 9 clsX clsSub) (aCons (vget 1) (aCons (cst (.glo 5)) aNil))))
theorem sc_Loses___eq__ : FnScope ["self", "other"] ["self", "other"] (defScope (mth 13 1)) := ⟨rfl, rfl, rfl, by decide +kernel, rfl, by decide +kernel, by decide +kernel⟩
theorem Tp.o_Loses___eq__ (T : Tp w K mg G.toGb) : FnO P w K mg base (CX P w) 1 T.a_Loses___eq__ T.fd_Loses___eq__ ["self", "other"] (spN G 2 v_Loses___eq__) :=
  fn_up T.F_Loses___eq__ sc_Loses___eq__ rfl fun cdv A outer s H E hr =>
    have S := sc_Loses___eq__
    (ss_one (s_ret (e_callB (c_isiA T.hK T.kit T.xcf) rfl T.b_isinstance boot_isinstance (a_cons (e_var (pv 1)) (a_cons (e_glo rfl T.gg_Loses) a_nil)))))
theorem Tp.r0_Loses___eq__ (T : Tp w K mg G.toGb) : FnG P w K mg base (CX P w) 1 T.a_Loses___eq__ (spR G (defM 2 [] v_Loses___eq__)) :=
  fn_raw (dvs := []) (T.o_Loses___eq__) (T.F_Loses___eq__.bindsN fun _ _ _ _ _ _ us hl => match us, hl with | [_, _], _ => rfl) .nil fun _ _ => rfl
def v_Loses___str__ : BM := fnM 0 (sRet (cst (.str "loses")))
theorem sc_Loses___str__ : FnScope ["self"] ["self"] (defScope (mth 13 2)) := ⟨rfl, rfl, rfl, by decide +kernel, rfl, by decide +kernel, by decide +kernel⟩
theorem Tp.o_Loses___str__ (T : Tp w K mg G.toGb) : FnO P w K mg base (CX P w) 1 T.a_Loses___str__ T.fd_Loses___str__ ["self"] (spN G 1 v_Loses___str__) :=
  fn_up T.F_Loses___str__ sc_Loses___str__ rfl fun cdv A outer s H E hr =>
    have S := sc_Loses___str__
    (ss_one (s_ret (e_c pe_str fun _ _ => rfl)))
theorem Tp.r0_Loses___str__ (T : Tp w K mg G.toGb) : FnG P w K mg base (CX P w) 1 T.a_Loses___str__ (spR G (defM 1 [] v_Loses___str__)) :=
  fn_raw (dvs := []) (T.o_Loses___str__) (T.F_Loses___str__.bindsN fun _ _ _ _ _ _ us hl => match us, hl with | [_], _ => rfl) .nil fun _ _ => rfl
def v_Doubles___eq__ : BM := fnM 0 (sRet (eCall (isiA 9 clsX clsSub) (aCons (vget 1) (aCons (cst (.glo 6)) aNil))))
theorem sc_Doubles___eq__ : FnScope ["self", "other"] ["self", "other"] (defScope (mth 14 1)) := ⟨rfl, rfl, rfl, by decide +kernel, rfl, by decide +kernel, by decide +kernel⟩
theorem Tp.o_Doubles___eq__ (T : Tp w K mg G.toGb) : FnO P w K mg base (CX P w) 1 T.a_Doubles___eq__ T.fd_Doubles___eq__ ["self", "other"] (spN G 2 v_Doubles___eq__) :=
  fn_up T.F_Doubles___eq__ sc_Doubles___eq__ rfl fun cdv A outer s H E hr =>
    have S := sc_Doubles___eq__
    (ss_one (s_ret (e_callB (c_isiA T.hK T.kit T.xcf) rfl T.b_isinstance boot_isinstance (a_cons (e_var (pv 1)) (a_cons (e_glo rfl T.gg_Doubles) a_nil)))))
theorem Tp.r0_Doubles___eq__ (T : Tp w K mg G.toGb) : FnG P w K mg base (CX P w) 1 T.a_Doubles___eq__ (spR G (defM 2 [] v_Doubles___eq__)) :=
  fn_raw (dvs := []) (T.o_Doubles___eq__) (T.F_Doubles___eq__.bindsN fun _ _ _ _ _ _ us hl => match us, hl with | [_, _], _ => rfl) .nil fun _ _ => rfl
def v_Doubles___str__ : BM := fnM 0 (sRet (cst (.str "doubles")))
theorem sc_Doubles___str__ : FnScope ["self"] ["self"] (defScope (mth 14 2)) := ⟨rfl, rfl, rfl, by decide +kernel, rfl, by decide +kernel, by decide +kernel⟩
theorem Tp.o_Doubles___str__ (T : Tp w K mg G.toGb) : FnO P w K mg base (CX P w) 1 T.a_Doubles___str__ T.fd_Doubles___str__ ["self"] (spN G 1 v_Doubles___str__) :=
  fn_up T.F_Doubles___str__ sc_Doubles___str__ rfl fun cdv A outer s H E hr =>
    have S := sc_Doubles___str__
    (ss_one (s_ret (e_c pe_str fun _ _ => rfl)))
theorem Tp.r0_Doubles___str__ (T : Tp w K mg G.toGb) : FnG P w K mg base (CX P w) 1 T.a_Doubles___str__ (spR G (defM 1 [] v_Doubles___str__)) :=
  fn_raw (dvs := []) (T.o_Doubles___str__) (T.F_Doubles___str__.bindsN fun _ _ _ _ _ _ us hl => match us, hl with | [_], _ => rfl) .nil fun _ _ => rfl
def st8_by : Nat → Option Nat := fun c => if c = 7 then some 0 else none
theorem Tp.t_st8_by (T : Tp w K mg G.toGb) : ∀ c i, st8_by c = some i → ClsF G c ∧ (G.flds c)[i]? = some "by" := by
  intro c i e
  unfold st8_by at e
  by_cases h0 : c = 7
  · rw [if_pos h0] at e; cases e; subst h0; exact ⟨T.cf_Overtakes, by rw [T.fl_Overtakes]; rfl⟩
  rw [if_neg h0] at e
  cases e
def v_Overtakes___init___s0 : SM := (sIf (mNot (tst (eFn (defM 3 [] v_is_within) (aCons (vget 1) (aCons (cst (.int 1)) (aCons (cst (.int 2)) aNil)))))) (sRaise 1 1 (aCons (cst (.str "by")) aNil)) sNop)
def v_Overtakes___init___s1 : SM := (sFld st8_by (vget 0) (vget 1))
def v_Overtakes___init__ : BM := fnM 0 (sSeq v_Overtakes___init___s0 v_Overtakes___init___s1)
theorem sc_Overtakes___init__ : FnScope ["self", "by"] ["self", "by"] (defScope (mth 15 1)) := ⟨rfl, rfl, rfl, by decide +kernel, rfl, by decide +kernel, by decide +kernel⟩
theorem Tp.o_Overtakes___init__ (T : Tp w K mg G.toGb) : FnO P w K mg base (CX P w) 3 T.a_Overtakes___init__ T.fd_Overtakes___init__ ["self", "by"] (spN G 2 v_Overtakes___init__) :=
  fn_up T.F_Overtakes___init__ sc_Overtakes___init__ rfl fun cdv A outer s H E hr =>
    have S := sc_Overtakes___init__
    (ss_cons (s_if (t_not (t_val T.hK (e_call takes_cx (T.r0_is_within (G := G)) (hr.mono (by decide)) rfl T.g_is_within T.F_is_within.kp (a_cons (e_var (pv 1)) (a_cons (e_c pe_int fun _ _ => rfl) (a_cons (e_gloI rfl T.k_MOST_OVERTAKEN.choose_spec.1 T.k_MOST_OVERTAKEN.choose_spec.2) a_nil)))))) (ss_one (s_raise (fl := ["part"]) takes_cx T.hK T.ex_BadChannel rfl (by decide) (by decide) T.ei_BadChannel T.et_BadChannel (T.xi_BadChannel) (hr.mono (by decide)) T.xb_BadChannel rfl T.gc_BadChannel (a_cons (e_c pe_str fun _ _ => rfl) a_nil))) ss_nil)
  (ss_one (s_fld T.hK T.t_st8_by (e_var (pv 0)) (e_var (pv 1)))))
theorem Tp.r0_Overtakes___init__ (T : Tp w K mg G.toGb) : FnG P w K mg base (CX P w) 3 T.a_Overtakes___init__ (spR G (defM 2 [] v_Overtakes___init__)) :=
  fn_raw (dvs := []) (T.o_Overtakes___init__) (T.F_Overtakes___init__.bindsN fun _ _ _ _ _ _ us hl => match us, hl with | [_, _], _ => rfl) .nil fun _ _ => rfl
def du9__eq__ : Nat → Option BM := fun c => if c = 4 then some (defM 2 [] v_Fault___eq__) else if c = 5 then some (defM 2 [] v_Loses___eq__) else if c = 6 then some (defM 2 [] v_Doubles___eq__) else none
theorem Tp.t_du9__eq__ (T : Tp w K mg G.toGb) : ∀ c, DuOk P w mg base G 3 "__eq__" c (du9__eq__ c) := by
  intro c
  unfold du9__eq__
  by_cases h0 : c = 4
  · rw [if_pos h0]; subst h0; exact ⟨T.a_Fault___eq__, T.df_Fault___eq__, T.isf_Fault___eq__, by rw [T.hK]; exact fnUp (j := 3) (by decide) (T.r0_Fault___eq__ (G := G))⟩
  rw [if_neg h0]
  by_cases h1 : c = 5
  · rw [if_pos h1]; subst h1; exact ⟨T.a_Loses___eq__, T.df_Loses___eq__, T.isf_Loses___eq__, by rw [T.hK]; exact fnUp (j := 1) (by decide) (T.r0_Loses___eq__ (G := G))⟩
  rw [if_neg h1]
  by_cases h2 : c = 6
  · rw [if_pos h2]; subst h2; exact ⟨T.a_Doubles___eq__, T.df_Doubles___eq__, T.isf_Doubles___eq__, by rw [T.hK]; exact fnUp (j := 1) (by decide) (T.r0_Doubles___eq__ (G := G))⟩
  rw [if_neg h2]
  exact trivial
theorem Tp.t_du9__eq__n (T : Tp w K mg G.toGb) : ∀ c, (du9__eq__ c).isSome = true → PySem.W.findIn G.K (.ref (G.cls c)) "__ne__" = some (some (.builtin "object.__ne__")) := by
  intro c e
  unfold du9__eq__ at e
  by_cases h0 : c = 4
  · subst h0; exact T.ne_Fault
  rw [if_neg h0] at e
  by_cases h1 : c = 5
  · subst h1; exact T.ne_Loses
  rw [if_neg h1] at e
  by_cases h2 : c = 6
  · subst h2; exact T.ne_Doubles
  rw [if_neg h2] at e
  cases e
def at10_by : Nat → At := fun c => if c = 7 then At.fld 0 else At.no
def at10_byx : Nat → Option Nat := fun c => none
theorem Tp.t_at10_by (T : Tp w K mg G.toGb) : ∀ c, AtOk P w mg base G 0 "by" c (at10_by c) := by
  intro c
  unfold at10_by
  by_cases h0 : c = 7
  · rw [if_pos h0]; subst h0; exact ⟨T.cf_Overtakes, by rw [T.fl_Overtakes]; rfl⟩
  rw [if_neg h0]
  exact trivial
theorem Tp.t_at10_byx (T : Tp w K mg G.toGb) : ∀ c i, at10_byx c = some i → XcF G c ∧ (G.flds c)[i]? = some "by" := by
  intro c i e
  unfold at10_byx at e
  cases e
def v_Overtakes___eq__ : BM := fnM 0 (sRet (vAnd (eCall (isiA 9 clsX clsSub) (aCons (vget 1) (aCons (cst (.glo 7)) aNil))) (bin (els (datE false) (els (eqO false 9 clsSub du9__eq__) (eqR 9 du9__eq__))) (eAx at10_by at10_byx (vget 0)) (eAx at10_by at10_byx (vget 1)))))
theorem sc_Overtakes___eq__ : FnScope ["self", "other"] ["self", "other"] (defScope (mth 15 2)) := ⟨rfl, rfl, rfl, by decide +kernel, rfl, by decide +kernel, by decide +kernel⟩
theorem Tp.o_Overtakes___eq__ (T : Tp w K mg G.toGb) : FnO P w K mg base (CX P w) 5 T.a_Overtakes___eq__ T.fd_Overtakes___eq__ ["self", "other"] (spN G 2 v_Overtakes___eq__) :=
  fn_up T.F_Overtakes___eq__ sc_Overtakes___eq__ rfl fun cdv A outer s H E hr =>
    have S := sc_Overtakes___eq__
    (ss_one (s_ret (e_and T.hK (e_callB (c_isiA T.hK T.kit T.xcf) rfl T.b_isinstance boot_isinstance (a_cons (e_var (pv 1)) (a_cons (e_glo rfl T.gg_Overtakes) a_nil))) (e_one (e_cmp (o_els (o_datE T.hK hr.units) (o_els (o_eqO T.hK (hr.mono (by decide)) T.kit T.eqt (T.t_du9__eq__ (G := G))) (o_eqR T.hK (hr.mono (by decide)) T.eqt (T.t_du9__eq__ (G := G))))) (e_ax takes_cx T.hK (hr.mono (by decide)) (T.t_at10_by (G := G)) (T.t_at10_byx (G := G)) (e_var (pv 0))) (e_ax takes_cx T.hK (hr.mono (by decide)) (T.t_at10_by (G := G)) (T.t_at10_byx (G := G)) (e_var (pv 1))) (nomark _))))))
theorem Tp.r0_Overtakes___eq__ (T : Tp w K mg G.toGb) : FnG P w K mg base (CX P w) 5 T.a_Overtakes___eq__ (spR G (defM 2 [] v_Overtakes___eq__)) :=
  fn_raw (dvs := []) (T.o_Overtakes___eq__) (T.F_Overtakes___eq__.bindsN fun _ _ _ _ _ _ us hl => match us, hl with | [_, _], _ => rfl) .nil fun _ _ => rfl
def v_Overtakes___str__ : BM := fnM 0 (sRet (eJn [(cst (.str "overtakes ")), (eUn fmtW (eAx at10_by at10_byx (vget 0)))]))
theorem sc_Overtakes___str__ : FnScope ["self"] ["self"] (defScope (mth 15 3)) := ⟨rfl, rfl, rfl, by decide +kernel, rfl, by decide +kernel, by decide +kernel⟩
theorem Tp.o_Overtakes___str__ (T : Tp w K mg G.toGb) : FnO P w K mg base (CX P w) 2 T.a_Overtakes___str__ T.fd_Overtakes___str__ ["self"] (spN G 1 v_Overtakes___str__) :=
  fn_up T.F_Overtakes___str__ sc_Overtakes___str__ rfl fun cdv A outer s H E hr =>
    have S := sc_Overtakes___str__
    (ss_one (s_ret (e_jn (.cons (e_c pe_str fun _ _ => rfl) (.cons (e_fmt (e_ax takes_cx T.hK (hr.mono (by decide)) (T.t_at10_by (G := G)) (T.t_at10_byx (G := G)) (e_var (pv 0)))) .nil)))))
theorem Tp.r0_Overtakes___str__ (T : Tp w K mg G.toGb) : FnG P w K mg base (CX P w) 2 T.a_Overtakes___str__ (spR G (defM 1 [] v_Overtakes___str__)) :=
  fn_raw (dvs := []) (T.o_Overtakes___str__) (T.F_Overtakes___str__.bindsN fun _ _ _ _ _ _ us hl => match us, hl with | [_], _ => rfl) .nil fun _ _ => rfl
def v_is_kind : BM := fnM 0 (sRet (eCall (isiT 9 clsSub) (aCons (vget 0) (aCons (eTup (aCons (cst (.glo 5)) (aCons (cst (.glo 6)) (aCons (cst (.glo 7)) aNil)))) aNil))))
theorem sc_is_kind : FnScope ["value"] ["value"] (defScope (top 16)) := ⟨rfl, rfl, rfl, by decide +kernel, rfl, by decide +kernel, by decide +kernel⟩
theorem Tp.o_is_kind (T : Tp w K mg G.toGb) : FnO P w K mg base (CX P w) 1 T.a_is_kind T.fd_is_kind ["value"] (spN G 1 v_is_kind) :=
  fn_up T.F_is_kind sc_is_kind rfl fun cdv A outer s H E hr =>
    have S := sc_is_kind
    (ss_one (s_ret (e_callB (c_isiT T.hK T.kit) rfl T.b_isinstance boot_isinstance (a_cons (e_var (pv 0)) (a_cons (e_tup (a_cons (e_glo rfl T.gg_Loses) (a_cons (e_glo rfl T.gg_Doubles) (a_cons (e_glo rfl T.gg_Overtakes) a_nil)))) a_nil)))))
theorem Tp.r0_is_kind (T : Tp w K mg G.toGb) : FnG P w K mg base (CX P w) 1 T.a_is_kind (spR G (defM 1 [] v_is_kind)) :=
  fn_raw (dvs := []) (T.o_is_kind) (T.F_is_kind.bindsN fun _ _ _ _ _ _ us hl => match us, hl with | [_], _ => rfl) .nil fun _ _ => rfl
def co11_ORDER : Nat → Option W := fun c => if c = 5 then some (W.int (0)) else if c = 6 then some (W.int (1)) else if c = 7 then some (W.int (2)) else none
theorem Tp.t_co11_ORDER (T : Tp w K mg G.toGb) : ∀ c x, co11_ORDER c = some x → Cls G.K (G.cls c) ∧ ("ORDER" : Str) ∉ G.flds c ∧ ∃ v u, Con G.K (G.cls c) "ORDER" v u ∧ ∀ ρ H, RelW G ρ H x v := by
  intro c x e
  unfold co11_ORDER at e
  by_cases h0 : c = 5
  · rw [if_pos h0] at e; cases e; subst h0; exact ⟨T.cl_Loses, by rw [T.fl_Loses]; decide, _, T.co_Loses_ORDER.choose, T.co_Loses_ORDER.choose_spec, fun _ _ => rfl⟩
  rw [if_neg h0] at e
  by_cases h1 : c = 6
  · rw [if_pos h1] at e; cases e; subst h1; exact ⟨T.cl_Doubles, by rw [T.fl_Doubles]; decide, _, T.co_Doubles_ORDER.choose, T.co_Doubles_ORDER.choose_spec, fun _ _ => rfl⟩
  rw [if_neg h1] at e
  by_cases h2 : c = 7
  · rw [if_pos h2] at e; cases e; subst h2; exact ⟨T.cl_Overtakes, by rw [T.fl_Overtakes]; decide, _, T.co_Overtakes_ORDER.choose, T.co_Overtakes_ORDER.choose_spec, fun _ _ => rfl⟩
  rw [if_neg h2] at e
  cases e
def du12__eq__ : Nat → Option BM := fun c => if c = 4 then some (defM 2 [] v_Fault___eq__) else if c = 5 then some (defM 2 [] v_Loses___eq__) else if c = 6 then some (defM 2 [] v_Doubles___eq__) else if c = 7 then some (defM 2 [] v_Overtakes___eq__) else none
theorem Tp.t_du12__eq__ (T : Tp w K mg G.toGb) : ∀ c, DuOk P w mg base G 5 "__eq__" c (du12__eq__ c) := by
  intro c
  unfold du12__eq__
  by_cases h0 : c = 4
  · rw [if_pos h0]; subst h0; exact ⟨T.a_Fault___eq__, T.df_Fault___eq__, T.isf_Fault___eq__, by rw [T.hK]; exact fnUp (j := 3) (by decide) (T.r0_Fault___eq__ (G := G))⟩
  rw [if_neg h0]
  by_cases h1 : c = 5
  · rw [if_pos h1]; subst h1; exact ⟨T.a_Loses___eq__, T.df_Loses___eq__, T.isf_Loses___eq__, by rw [T.hK]; exact fnUp (j := 1) (by decide) (T.r0_Loses___eq__ (G := G))⟩
  rw [if_neg h1]
  by_cases h2 : c = 6
  · rw [if_pos h2]; subst h2; exact ⟨T.a_Doubles___eq__, T.df_Doubles___eq__, T.isf_Doubles___eq__, by rw [T.hK]; exact fnUp (j := 1) (by decide) (T.r0_Doubles___eq__ (G := G))⟩
  rw [if_neg h2]
  by_cases h3 : c = 7
  · rw [if_pos h3]; subst h3; exact ⟨T.a_Overtakes___eq__, T.df_Overtakes___eq__, T.isf_Overtakes___eq__, by rw [T.hK]; exact fnUp (j := 5) (by decide) (T.r0_Overtakes___eq__ (G := G))⟩
  rw [if_neg h3]
  exact trivial
theorem Tp.t_du12__eq__n (T : Tp w K mg G.toGb) : ∀ c, (du12__eq__ c).isSome = true → PySem.W.findIn G.K (.ref (G.cls c)) "__ne__" = some (some (.builtin "object.__ne__")) := by
  intro c e
  unfold du12__eq__ at e
  by_cases h0 : c = 4
  · subst h0; exact T.ne_Fault
  rw [if_neg h0] at e
  by_cases h1 : c = 5
  · subst h1; exact T.ne_Loses
  rw [if_neg h1] at e
  by_cases h2 : c = 6
  · subst h2; exact T.ne_Doubles
  rw [if_neg h2] at e
  by_cases h3 : c = 7
  · subst h3; exact T.ne_Overtakes
  rw [if_neg h3] at e
  cases e
def v_told_faults_s0 : SM := (sIf (mNot (tst (eCall (b1 (allW false)) (aCons (eLc (iAny (vget 0)) (cN 1) tTrue (eFn (defM 1 [] v_is_kind) (aCons (vget 1) aNil)) [1]) aNil)))) (sRaise 1 1 (aCons (cst (.str "faults")) aNil)) sNop)
def v_told_faults_s1 : SM := (sIf (tB1 (bin (els ltI ltS) (eLsA (eLc (iAny (vget 0)) (cN 1) tTrue (eCo co11_ORDER (vget 1)) [1])) (eCall (b1 lenW) (aCons (vget 0) aNil)))) (sRaise 1 1 (aCons (cst (.str "faults")) aNil)) sNop)
def v_told_faults_s2 : SM := (sRet (eCall (b1 tupleW) (aCons (eLc2 (iRg rg1 (aCons (cst (.int 3)) aNil)) (cN 2) tTrue (iAny (vget 0)) (cN 1) (tB1 (bin (els (datE false) (els (eqO false 9 clsSub du12__eq__) (eqR 9 du12__eq__))) (eCo co11_ORDER (vget 1)) (vget 2))) (vget 1) [2, 1] [1]) aNil)))
def v_told_faults : BM := fnM 2 (sSeq v_told_faults_s0 (sSeq v_told_faults_s1 v_told_faults_s2))
theorem sc_told_faults : FnScope ["faults", "fault", "order"] ["faults"] (defScope (top 17)) := ⟨rfl, rfl, rfl, by decide +kernel, rfl, by decide +kernel, by decide +kernel⟩
theorem Tp.o_told_faults (T : Tp w K mg G.toGb) : FnO P w K mg base (CX P w) 7 T.a_told_faults T.fd_told_faults ["faults"] (spN G 1 v_told_faults) :=
  fn_up T.F_told_faults sc_told_faults rfl fun cdv A outer s H E hr =>
    have S := sc_told_faults
    (ss_cons (s_if (t_not (t_val T.hK (e_callB (c_all T.hK rfl) rfl T.b_all boot_all (a_cons (e_lc (own := [("fault", 1)]) rfl S.nd (i_any T.hK (e_var (pv 0))) (show BlkOk ["faults", "fault", "order"] (defScope (top 17)) _ [("fault", 1)] from blkOk_by (by decide +kernel)) (gt_name (by decide)) (fun s H C cl fp => (pg_name (i := 1) S.nd rfl (by first | exact .inl rfl | exact .inr rfl))) (fun s H C cl fp tk0 => ts_none) (fun s H C cl fp tk0 => (e_call tk0 (T.r0_is_kind (G := G)) (hr.mono (by decide)) rfl T.g_is_kind T.F_is_kind.kp (a_cons (e_var (pv 1)) a_nil)))) a_nil)))) (ss_one (s_raise (fl := ["part"]) takes_cx T.hK T.ex_BadChannel rfl (by decide) (by decide) T.ei_BadChannel T.et_BadChannel (T.xi_BadChannel) (hr.mono (by decide)) T.xb_BadChannel rfl T.gc_BadChannel (a_cons (e_c pe_str fun _ _ => rfl) a_nil))) ss_nil)
  (ss_cons (s_if (t_cmp (o_els o_ltI o_ltS) (e_lenSetA T.hK rfl T.b_len rfl T.b_set (e_lc (own := [("fault", 1)]) rfl S.nd (i_any T.hK (e_var (pv 0))) (show BlkOk ["faults", "fault", "order"] (defScope (top 17)) _ [("fault", 1)] from blkOk_by (by decide +kernel)) (gt_name (by decide)) (fun s H C cl fp => (pg_name (i := 1) S.nd rfl (by first | exact .inl rfl | exact .inr rfl))) (fun s H C cl fp tk0 => ts_none) (fun s H C cl fp tk0 => (e_co T.hK (T.t_co11_ORDER (G := G)) (e_var (pv 1)))))) (e_callB (c_len T.hK) rfl T.b_len boot_len (a_cons (e_var (pv 0)) a_nil)) (nomark _)) (ss_one (s_raise (fl := ["part"]) takes_cx T.hK T.ex_BadChannel rfl (by decide) (by decide) T.ei_BadChannel T.et_BadChannel (T.xi_BadChannel) (hr.mono (by decide)) T.xb_BadChannel rfl T.gc_BadChannel (a_cons (e_c pe_str fun _ _ => rfl) a_nil))) ss_nil)
  (ss_one (s_ret (e_callTy (c_tuple T.hK) rfl T.b_tuple boot_tuple (a_cons (e_lc2 (own := [("order", 2), ("fault", 1)]) (vs1 := [1]) rfl S.nd (i_rg1 rfl T.b_range (a_cons (e_c pe_int fun _ _ => rfl) a_nil)) (show BlkOk ["faults", "fault", "order"] (defScope (top 17)) _ [("order", 2), ("fault", 1)] from blkOk_by (by decide +kernel)) (by decide) (gt_name (by decide)) (gt_name (by decide)) (fun s H C cl fp => (pg_name (i := 2) S.nd rfl (by first | exact .inl rfl | exact .inr rfl))) (fun s H C cl fp tk0 => ts_none) (fun s H C cl fp tk0 => (i_any T.hK (e_var (pv 0)))) (fun s H C cl fp => (pg_name (i := 1) S.nd rfl (by first | exact .inl rfl | exact .inr rfl))) (fun s H C cl fp tk0 => (ts_one (t_cmp (o_els (o_datE T.hK hr.units) (o_els (o_eqO T.hK (hr.mono (by decide)) T.kit T.eqt (T.t_du12__eq__ (G := G))) (o_eqR T.hK (hr.mono (by decide)) T.eqt (T.t_du12__eq__ (G := G))))) (e_co T.hK (T.t_co11_ORDER (G := G)) (e_var (pv 1))) (e_var (pv 2)) (nomark _)))) (fun s H C cl fp tk0 => (e_var (pv 1)))) a_nil))))))
theorem Tp.r0_told_faults (T : Tp w K mg G.toGb) : FnG P w K mg base (CX P w) 7 T.a_told_faults (spR G (defM 1 [] v_told_faults)) :=
  fn_raw (dvs := []) (T.o_told_faults) (T.F_told_faults.bindsN fun _ _ _ _ _ _ us hl => match us, hl with | [_], _ => rfl) .nil fun _ _ => rfl
def st13_capacity : Nat → Option Nat := fun c => if c = 8 then some 0 else none
theorem Tp.t_st13_capacity (T : Tp w K mg G.toGb) : ∀ c i, st13_capacity c = some i → ClsF G c ∧ (G.flds c)[i]? = some "capacity" := by
  intro c i e
  unfold st13_capacity at e
  by_cases h0 : c = 8
  · rw [if_pos h0] at e; cases e; subst h0; exact ⟨T.cf_Channel, by rw [T.fl_Channel]; rfl⟩
  rw [if_neg h0] at e
  cases e
def st14_faults : Nat → Option Nat := fun c => if c = 8 then some 1 else none
theorem Tp.t_st14_faults (T : Tp w K mg G.toGb) : ∀ c i, st14_faults c = some i → ClsF G c ∧ (G.flds c)[i]? = some "faults" := by
  intro c i e
  unfold st14_faults at e
  by_cases h0 : c = 8
  · rw [if_pos h0] at e; cases e; subst h0; exact ⟨T.cf_Channel, by rw [T.fl_Channel]; rfl⟩
  rw [if_neg h0] at e
  cases e
def v_Channel___init___s0 : SM := (sIf (mNot (tst (eFn (defM 3 [] v_is_within) (aCons (vget 1) (aCons (cst (.int 1)) (aCons (eCv 8 (W.int (3)) (cst (.glo 8))) aNil)))))) (sRaise 1 1 (aCons (cst (.str "capacity")) aNil)) sNop)
def v_Channel___init___s1 : SM := (sFld st13_capacity (vget 0) (vget 1))
def v_Channel___init___s2 : SM := (sFld st14_faults (vget 0) (eFn (defM 1 [] v_told_faults) (aCons (vget 2) aNil)))
def v_Channel___init__ : BM := fnM 0 (sSeq v_Channel___init___s0 (sSeq v_Channel___init___s1 v_Channel___init___s2))
theorem sc_Channel___init__ : FnScope ["self", "capacity", "faults"] ["self", "capacity", "faults"] (defScope (mth 19 1)) := ⟨rfl, rfl, rfl, by decide +kernel, rfl, by decide +kernel, by decide +kernel⟩
theorem Tp.r0_Channel___init__ (T : Tp w K mg G.toGb) : FnG P w K mg base (CX P w) 8 T.a_Channel___init__ (spR G (defS 2 v_Channel___init__)) :=
  fn_starG (m := 0) (ps := ["self", "capacity"]) (pv := "faults") T.F_Channel___init__ sc_Channel___init__ rfl rfl (fun kV doc pm cd ct an => StX.bind_star2 (B := fun l => bindArgs _ ⟨l, []⟩) (fun _ _ => rfl) (fun _ _ _ _ => rfl)) fun cdv A outer s H E hr =>
    have S := sc_Channel___init__
    (ss_cons (s_if (t_not (t_val T.hK (e_call takes_cx (T.r0_is_within (G := G)) (hr.mono (by decide)) rfl T.g_is_within T.F_is_within.kp (a_cons (e_var (pv 1)) (a_cons (e_c pe_int fun _ _ => rfl) (a_cons (e_cv T.hK T.cr_Channel T.cv_Channel_MOST (fun _ _ => rfl) (e_glo rfl T.gg_Channel)) a_nil)))))) (ss_one (s_raise (fl := ["part"]) takes_cx T.hK T.ex_BadChannel rfl (by decide) (by decide) T.ei_BadChannel T.et_BadChannel (T.xi_BadChannel) (hr.mono (by decide)) T.xb_BadChannel rfl T.gc_BadChannel (a_cons (e_c pe_str fun _ _ => rfl) a_nil))) ss_nil)
  (ss_cons (s_fld T.hK T.t_st13_capacity (e_var (pv 0)) (e_var (pv 1)))
  (ss_one (s_fld T.hK T.t_st14_faults (e_var (pv 0)) (e_call takes_cx (T.r0_told_faults (G := G)) (hr.mono (by decide)) rfl T.g_told_faults T.F_told_faults.kp (a_cons (e_var (pv 2)) a_nil))))))
def at15_faults : Nat → At := fun c => if c = 8 then At.fld 1 else At.no
def at15_faultsx : Nat → Option Nat := fun c => none
theorem Tp.t_at15_faults (T : Tp w K mg G.toGb) : ∀ c, AtOk P w mg base G 0 "faults" c (at15_faults c) := by
  intro c
  unfold at15_faults
  by_cases h0 : c = 8
  · rw [if_pos h0]; subst h0; exact ⟨T.cf_Channel, by rw [T.fl_Channel]; rfl⟩
  rw [if_neg h0]
  exact trivial
theorem Tp.t_at15_faultsx (T : Tp w K mg G.toGb) : ∀ c i, at15_faultsx c = some i → XcF G c ∧ (G.flds c)[i]? = some "faults" := by
  intro c i e
  unfold at15_faultsx at e
  cases e
def v_Channel_loses : BM := fnM 0 (sRet (bin (els (els (datIn false) (dctIn false)) (inT false 9 clsSub du12__eq__)) (eNew0 frzO 5 0) (eAx at15_faults at15_faultsx (vget 0))))
theorem sc_Channel_loses : FnScope ["self"] ["self"] (defScope (mth 19 2)) := ⟨rfl, rfl, rfl, by decide +kernel, rfl, by decide +kernel, by decide +kernel⟩
theorem Tp.o_Channel_loses (T : Tp w K mg G.toGb) : FnO P w K mg base (CX P w) 7 T.a_Channel_loses T.fd_Channel_loses ["self"] (spN G 1 v_Channel_loses) :=
  fn_up T.F_Channel_loses sc_Channel_loses rfl fun cdv A outer s H E hr =>
    have S := sc_Channel_loses
    (ss_one (s_ret (e_cmp (o_els (o_els (o_datIn T.hK hr.units) (o_dctIn T.hK hr.units)) (o_seqIn T.hK (hr.mono (by decide)) T.kit T.eqt (T.t_du12__eq__ (G := G)))) (e_new0 (fin := frzO) (fun h1 h2 h3 => frz_post h1 h2 (by rw [T.fl_Loses]; rfl) h3) T.hK T.mk0_Loses rfl T.gc_Loses) (e_ax takes_cx T.hK (hr.mono (by decide)) (T.t_at15_faults (G := G)) (T.t_at15_faultsx (G := G)) (e_var (pv 0))) rfl)))
theorem Tp.r0_Channel_loses (T : Tp w K mg G.toGb) : FnG P w K mg base (CX P w) 7 T.a_Channel_loses (spR G (defM 1 [] v_Channel_loses)) :=
  fn_raw (dvs := []) (T.o_Channel_loses) (T.F_Channel_loses.bindsN fun _ _ _ _ _ _ us hl => match us, hl with | [_], _ => rfl) .nil fun _ _ => rfl
def v_Channel_doubles : BM := fnM 0 (sRet (bin (els (els (datIn false) (dctIn false)) (inT false 9 clsSub du12__eq__)) (eNew0 frzO 6 0) (eAx at15_faults at15_faultsx (vget 0))))
theorem sc_Channel_doubles : FnScope ["self"] ["self"] (defScope (mth 19 3)) := ⟨rfl, rfl, rfl, by decide +kernel, rfl, by decide +kernel, by decide +kernel⟩
theorem Tp.o_Channel_doubles (T : Tp w K mg G.toGb) : FnO P w K mg base (CX P w) 7 T.a_Channel_doubles T.fd_Channel_doubles ["self"] (spN G 1 v_Channel_doubles) :=
  fn_up T.F_Channel_doubles sc_Channel_doubles rfl fun cdv A outer s H E hr =>
    have S := sc_Channel_doubles
    (ss_one (s_ret (e_cmp (o_els (o_els (o_datIn T.hK hr.units) (o_dctIn T.hK hr.units)) (o_seqIn T.hK (hr.mono (by decide)) T.kit T.eqt (T.t_du12__eq__ (G := G)))) (e_new0 (fin := frzO) (fun h1 h2 h3 => frz_post h1 h2 (by rw [T.fl_Doubles]; rfl) h3) T.hK T.mk0_Doubles rfl T.gc_Doubles) (e_ax takes_cx T.hK (hr.mono (by decide)) (T.t_at15_faults (G := G)) (T.t_at15_faultsx (G := G)) (e_var (pv 0))) rfl)))
theorem Tp.r0_Channel_doubles (T : Tp w K mg G.toGb) : FnG P w K mg base (CX P w) 7 T.a_Channel_doubles (spR G (defM 1 [] v_Channel_doubles)) :=
  fn_raw (dvs := []) (T.o_Channel_doubles) (T.F_Channel_doubles.bindsN fun _ _ _ _ _ _ us hl => match us, hl with | [_], _ => rfl) .nil fun _ _ => rfl
def v_Channel_overtakes : BM := fnM 1 (sRet (eCall (b1 sumW) (aCons (eLc (iAny (eAx at15_faults at15_faultsx (vget 0))) (cN 1) (tst (eCall (isiA 9 clsX clsSub) (aCons (vget 1) (aCons (cst (.glo 7)) aNil)))) (eAx at10_by at10_byx (vget 1)) [1]) aNil)))
theorem sc_Channel_overtakes : FnScope ["self", "fault"] ["self"] (defScope (mth 19 4)) := ⟨rfl, rfl, rfl, by decide +kernel, rfl, by decide +kernel, by decide +kernel⟩
theorem Tp.o_Channel_overtakes (T : Tp w K mg G.toGb) : FnO P w K mg base (CX P w) 2 T.a_Channel_overtakes T.fd_Channel_overtakes ["self"] (spN G 1 v_Channel_overtakes) :=
  fn_up T.F_Channel_overtakes sc_Channel_overtakes rfl fun cdv A outer s H E hr =>
    have S := sc_Channel_overtakes
    (ss_one (s_ret (e_callB (c_sum T.hK rfl) rfl T.b_sum boot_sum (a_cons (e_lc (own := [("fault", 1)]) rfl S.nd (i_any T.hK (e_ax takes_cx T.hK (hr.mono (by decide)) (T.t_at15_faults (G := G)) (T.t_at15_faultsx (G := G)) (e_var (pv 0)))) (show BlkOk ["self", "fault"] (defScope (mth 19 4)) _ [("fault", 1)] from blkOk_by (by decide +kernel)) (gt_name (by decide)) (fun s H C cl fp => (pg_name (i := 1) S.nd rfl (by first | exact .inl rfl | exact .inr rfl))) (fun s H C cl fp tk0 => (ts_one (t_val T.hK (e_callB (c_isiA T.hK T.kit T.xcf) rfl T.b_isinstance boot_isinstance (a_cons (e_var (pv 1)) (a_cons (e_glo rfl T.gg_Overtakes) a_nil)))))) (fun s H C cl fp tk0 => (e_ax tk0 T.hK (hr.mono (by decide)) (T.t_at10_by (G := G)) (T.t_at10_byx (G := G)) (e_var (pv 1))))) a_nil))))
theorem Tp.r0_Channel_overtakes (T : Tp w K mg G.toGb) : FnG P w K mg base (CX P w) 2 T.a_Channel_overtakes (spR G (defM 1 [] v_Channel_overtakes)) :=
  fn_raw (dvs := []) (T.o_Channel_overtakes) (T.F_Channel_overtakes.bindsN fun _ _ _ _ _ _ us hl => match us, hl with | [_], _ => rfl) .nil fun _ _ => rfl
def v_Channel___iter__ : BM := fnM 0 (sRet (eAx at15_faults at15_faultsx (vget 0)))
theorem sc_Channel___iter__ : FnScope ["self"] ["self"] (defScope (mth 19 5)) := ⟨rfl, rfl, rfl, by decide +kernel, rfl, by decide +kernel, by decide +kernel⟩
theorem Tp.it_Channel___iter__ (T : Tp w K mg G.toGb) : FnIt P w K mg base (CX P w) 2 T.a_Channel___iter__ G v_Channel___iter__ :=
  fn_it T.F_Channel___iter__ sc_Channel___iter__ (T.F_Channel___iter__.bindsN fun _ _ _ _ _ _ us hl => match us, hl with | [_], _ => rfl) T.hK (fun cdv A outer s H E hr =>
    have S := sc_Channel___iter__
    ⟨(e_ax takes_cx T.hK (hr.mono (by decide)) (T.t_at15_faults (G := G)) (T.t_at15_faultsx (G := G)) (e_var (pv 0))), rfl⟩) T.b_iter (fun _ => rfl)
def at16_overtakes : Nat → At := fun c => if c = 8 then At.prop (defM 1 [] v_Channel_overtakes) else At.no
def at16_overtakesx : Nat → Option Nat := fun c => none
theorem Tp.t_at16_overtakes (T : Tp w K mg G.toGb) : ∀ c, AtOk P w mg base G 2 "overtakes" c (at16_overtakes c) := by
  intro c
  unfold at16_overtakes
  by_cases h0 : c = 8
  · rw [if_pos h0]; subst h0; exact ⟨T.cl_Channel, T.p_Channel_overtakes, T.a_Channel_overtakes, T.po_Channel_overtakes, by rw [T.hK]; exact fnUp (j := 2) (by decide) (T.r0_Channel_overtakes (G := G))⟩
  rw [if_neg h0]
  exact trivial
theorem Tp.t_at16_overtakesx (T : Tp w K mg G.toGb) : ∀ c i, at16_overtakesx c = some i → XcF G c ∧ (G.flds c)[i]? = some "overtakes" := by
  intro c i e
  unfold at16_overtakesx at e
  cases e
def v_Channel___contains___s0 : SM := (sIf (tst (eCall (isiA 9 clsX clsSub) (aCons (vget 1) (aCons (cst (.glo 7)) aNil)))) (sRet (bin (leI) (eAx at10_by at10_byx (vget 1)) (eAx at16_overtakes at16_overtakesx (vget 0)))) sNop)
def v_Channel___contains___s1 : SM := (sRet (vAnd (eFn (defM 1 [] v_is_kind) (aCons (vget 1) aNil)) (bin (els (els (datIn false) (dctIn false)) (inT false 9 clsSub du12__eq__)) (vget 1) (eAx at15_faults at15_faultsx (vget 0)))))
def v_Channel___contains__ : BM := fnM 0 (sSeq v_Channel___contains___s0 v_Channel___contains___s1)
theorem sc_Channel___contains__ : FnScope ["self", "x"] ["self", "x"] (defScope (mth 19 6)) := ⟨rfl, rfl, rfl, by decide +kernel, rfl, by decide +kernel, by decide +kernel⟩
theorem Tp.o_Channel___contains__ (T : Tp w K mg G.toGb) : FnO P w K mg base (CX P w) 7 T.a_Channel___contains__ T.fd_Channel___contains__ ["self", "x"] (spN G 2 v_Channel___contains__) :=
  fn_up T.F_Channel___contains__ sc_Channel___contains__ rfl fun cdv A outer s H E hr =>
    have S := sc_Channel___contains__
    (ss_cons (s_if (t_val T.hK (e_callB (c_isiA T.hK T.kit T.xcf) rfl T.b_isinstance boot_isinstance (a_cons (e_var (pv 1)) (a_cons (e_glo rfl T.gg_Overtakes) a_nil)))) (ss_one (s_ret (e_cmp o_leI (e_ax takes_cx T.hK (hr.mono (by decide)) (T.t_at10_by (G := G)) (T.t_at10_byx (G := G)) (e_var (pv 1))) (e_ax takes_cx T.hK (hr.mono (by decide)) (T.t_at16_overtakes (G := G)) (T.t_at16_overtakesx (G := G)) (e_var (pv 0))) (nomark _)))) ss_nil)
  (ss_one (s_ret (e_and T.hK (e_call takes_cx (T.r0_is_kind (G := G)) (hr.mono (by decide)) rfl T.g_is_kind T.F_is_kind.kp (a_cons (e_var (pv 1)) a_nil)) (e_one (e_cmp (o_els (o_els (o_datIn T.hK hr.units) (o_dctIn T.hK hr.units)) (o_seqIn T.hK (hr.mono (by decide)) T.kit T.eqt (T.t_du12__eq__ (G := G)))) (e_var (pv 1)) (e_ax takes_cx T.hK (hr.mono (by decide)) (T.t_at15_faults (G := G)) (T.t_at15_faultsx (G := G)) (e_var (pv 0))) rfl))))))
theorem Tp.r0_Channel___contains__ (T : Tp w K mg G.toGb) : FnG P w K mg base (CX P w) 7 T.a_Channel___contains__ (spR G (defM 2 [] v_Channel___contains__)) :=
  fn_raw (dvs := []) (T.o_Channel___contains__) (T.F_Channel___contains__.bindsN fun _ _ _ _ _ _ us hl => match us, hl with | [_, _], _ => rfl) .nil fun _ _ => rfl
def at17_capacity : Nat → At := fun c => if c = 8 then At.fld 0 else At.no
def at17_capacityx : Nat → Option Nat := fun c => none
theorem Tp.t_at17_capacity (T : Tp w K mg G.toGb) : ∀ c, AtOk P w mg base G 0 "capacity" c (at17_capacity c) := by
  intro c
  unfold at17_capacity
  by_cases h0 : c = 8
  · rw [if_pos h0]; subst h0; exact ⟨T.cf_Channel, by rw [T.fl_Channel]; rfl⟩
  rw [if_neg h0]
  exact trivial
theorem Tp.t_at17_capacityx (T : Tp w K mg G.toGb) : ∀ c i, at17_capacityx c = some i → XcF G c ∧ (G.flds c)[i]? = some "capacity" := by
  intro c i e
  unfold at17_capacityx at e
  cases e
def v_Channel___sub___s0 : SM := (sIf (mNot (tst (eFn (defM 1 [] v_is_kind) (aCons (vget 1) aNil)))) (sRaise 1 1 (aCons (cst (.str "fault")) aNil)) sNop)
def v_Channel___sub___s1 : SM := (sAsg (eLc (iAny (eAx at15_faults at15_faultsx (vget 0))) (cN 3) (tB1 (bin (els (datE true) (eqO true 9 clsSub du12__eq__)) (eCo co11_ORDER (vget 3)) (eCo co11_ORDER (vget 1)))) (vget 3) [3]) (gNm 2))
def v_Channel___sub___s2 : SM := (sRet (eNew frzO 8 2 (defS 2 v_Channel___init__) (aCons (eAx at17_capacity at17_capacityx (vget 0)) (aStar (vget 2) aNil))))
def v_Channel___sub__ : BM := fnM 2 (sSeq v_Channel___sub___s0 (sSeq v_Channel___sub___s1 v_Channel___sub___s2))
theorem sc_Channel___sub__ : FnScope ["self", "other", "faults", "fault"] ["self", "other"] (defScope (mth 19 8)) := ⟨rfl, rfl, rfl, by decide +kernel, rfl, by decide +kernel, by decide +kernel⟩
theorem Tp.o_Channel___sub__ (T : Tp w K mg G.toGb) : FnO P w K mg base (CX P w) 10 T.a_Channel___sub__ T.fd_Channel___sub__ ["self", "other"] (spN G 2 v_Channel___sub__) :=
  fn_up T.F_Channel___sub__ sc_Channel___sub__ rfl fun cdv A outer s H E hr =>
    have S := sc_Channel___sub__
    (ss_cons (s_if (t_not (t_val T.hK (e_call takes_cx (T.r0_is_kind (G := G)) (hr.mono (by decide)) rfl T.g_is_kind T.F_is_kind.kp (a_cons (e_var (pv 1)) a_nil)))) (ss_one (s_raise (fl := ["part"]) takes_cx T.hK T.ex_BadChannel rfl (by decide) (by decide) T.ei_BadChannel T.et_BadChannel (T.xi_BadChannel) (hr.mono (by decide)) T.xb_BadChannel rfl T.gc_BadChannel (a_cons (e_c pe_str fun _ _ => rfl) a_nil))) ss_nil)
  (ss_cons (s_setLc (i := 2) (own := [("fault", 3)]) S.nd rfl rfl (i_any T.hK (e_ax takes_cx T.hK (hr.mono (by decide)) (T.t_at15_faults (G := G)) (T.t_at15_faultsx (G := G)) (e_var (pv 0)))) (show BlkOk ["self", "other", "faults", "fault"] (defScope (mth 19 8)) _ [("fault", 3)] from blkOk_by (by decide +kernel)) (gt_name (by decide)) (fun s H C cl fp => (pg_name (i := 3) S.nd rfl (by first | exact .inl rfl | exact .inr rfl))) (fun s H C cl fp tk0 => (ts_one (t_cmp (o_els (o_datN T.hK hr.units) (o_neO T.hK (hr.mono (by decide)) T.kit T.eqt (T.t_du12__eq__ (G := G)) (T.t_du12__eq__n))) (e_co T.hK (T.t_co11_ORDER (G := G)) (e_var (pv 3))) (e_co T.hK (T.t_co11_ORDER (G := G)) (e_var (pv 1))) (nomark _)))) (fun s H C cl fp tk0 => (e_var (pv 3))))
  (ss_one (s_ret (e_newS (fin := frzO) (fun h1 h2 h3 => frz_post h1 h2 (by rw [T.fl_Channel]; rfl) h3) takes_cx T.hK T.mk_Channel (T.r0_Channel___init__ (G := G)) (hr.mono (by decide)) rfl T.gc_Channel (a_cons (e_ax takes_cx T.hK (hr.mono (by decide)) (T.t_at17_capacity (G := G)) (T.t_at17_capacityx (G := G)) (e_var (pv 0))) (a_star T.hK (e_var (pv 2)) a_nil)))))))
theorem Tp.r0_Channel___sub__ (T : Tp w K mg G.toGb) : FnG P w K mg base (CX P w) 10 T.a_Channel___sub__ (spR G (defM 2 [] v_Channel___sub__)) :=
  fn_raw (dvs := []) (T.o_Channel___sub__) (T.F_Channel___sub__.bindsN fun _ _ _ _ _ _ us hl => match us, hl with | [_, _], _ => rfl) .nil fun _ _ => rfl
def v_Channel___eq__ : BM := fnM 0 (sRet (vAnd (eCall (isiA 9 clsX clsSub) (aCons (vget 1) (aCons (cst (.glo 8)) aNil))) (vAnd (bin (els (datE false) (els (els (eqO false 9 clsSub du12__eq__) (eqR 9 du12__eq__)) (els (seqT false 9 clsSub du12__eq__) (lenN false)))) (eAx at17_capacity at17_capacityx (vget 0)) (eAx at17_capacity at17_capacityx (vget 1))) (bin (els (datE false) (els (els (eqO false 9 clsSub du12__eq__) (eqR 9 du12__eq__)) (els (seqT false 9 clsSub du12__eq__) (lenN false)))) (eAx at15_faults at15_faultsx (vget 0)) (eAx at15_faults at15_faultsx (vget 1))))))
theorem sc_Channel___eq__ : FnScope ["self", "other"] ["self", "other"] (defScope (mth 19 12)) := ⟨rfl, rfl, rfl, by decide +kernel, rfl, by decide +kernel, by decide +kernel⟩
theorem Tp.o_Channel___eq__ (T : Tp w K mg G.toGb) : FnO P w K mg base (CX P w) 7 T.a_Channel___eq__ T.fd_Channel___eq__ ["self", "other"] (spN G 2 v_Channel___eq__) :=
  fn_up T.F_Channel___eq__ sc_Channel___eq__ rfl fun cdv A outer s H E hr =>
    have S := sc_Channel___eq__
    (ss_one (s_ret (e_and T.hK (e_callB (c_isiA T.hK T.kit T.xcf) rfl T.b_isinstance boot_isinstance (a_cons (e_var (pv 1)) (a_cons (e_glo rfl T.gg_Channel) a_nil))) (e_and T.hK (e_cmp (o_els (o_datE T.hK hr.units) (o_els (o_els (o_eqO T.hK (hr.mono (by decide)) T.kit T.eqt (T.t_du12__eq__ (G := G))) (o_eqR T.hK (hr.mono (by decide)) T.eqt (T.t_du12__eq__ (G := G)))) (o_els (o_seqE T.hK (hr.mono (by decide)) T.kit T.eqt (T.t_du12__eq__ (G := G))) (o_lenE hr)))) (e_ax takes_cx T.hK (hr.mono (by decide)) (T.t_at17_capacity (G := G)) (T.t_at17_capacityx (G := G)) (e_var (pv 0))) (e_ax takes_cx T.hK (hr.mono (by decide)) (T.t_at17_capacity (G := G)) (T.t_at17_capacityx (G := G)) (e_var (pv 1))) (nomark _)) (e_one (e_cmp (o_els (o_datE T.hK hr.units) (o_els (o_els (o_eqO T.hK (hr.mono (by decide)) T.kit T.eqt (T.t_du12__eq__ (G := G))) (o_eqR T.hK (hr.mono (by decide)) T.eqt (T.t_du12__eq__ (G := G)))) (o_els (o_seqE T.hK (hr.mono (by decide)) T.kit T.eqt (T.t_du12__eq__ (G := G))) (o_lenE hr)))) (e_ax takes_cx T.hK (hr.mono (by decide)) (T.t_at15_faults (G := G)) (T.t_at15_faultsx (G := G)) (e_var (pv 0))) (e_ax takes_cx T.hK (hr.mono (by decide)) (T.t_at15_faults (G := G)) (T.t_at15_faultsx (G := G)) (e_var (pv 1))) (nomark _)))))))
theorem Tp.r0_Channel___eq__ (T : Tp w K mg G.toGb) : FnG P w K mg base (CX P w) 7 T.a_Channel___eq__ (spR G (defM 2 [] v_Channel___eq__)) :=
  fn_raw (dvs := []) (T.o_Channel___eq__) (T.F_Channel___eq__.bindsN fun _ _ _ _ _ _ us hl => match us, hl with | [_, _], _ => rfl) .nil fun _ _ => rfl
def du18__str__ : Nat → Option BM := fun c => if c = 4 then some (defM 1 [] v_Fault___str__) else if c = 5 then some (defM 1 [] v_Loses___str__) else if c = 6 then some (defM 1 [] v_Doubles___str__) else if c = 7 then some (defM 1 [] v_Overtakes___str__) else none
theorem Tp.t_du18__str__ (T : Tp w K mg G.toGb) : ∀ c, DuOk P w mg base G 2 "__str__" c (du18__str__ c) := by
  intro c
  unfold du18__str__
  by_cases h0 : c = 4
  · rw [if_pos h0]; subst h0; exact ⟨T.a_Fault___str__, T.df_Fault___str__, T.isf_Fault___str__, by rw [T.hK]; exact fnUp (j := 1) (by decide) (T.r0_Fault___str__ (G := G))⟩
  rw [if_neg h0]
  by_cases h1 : c = 5
  · rw [if_pos h1]; subst h1; exact ⟨T.a_Loses___str__, T.df_Loses___str__, T.isf_Loses___str__, by rw [T.hK]; exact fnUp (j := 1) (by decide) (T.r0_Loses___str__ (G := G))⟩
  rw [if_neg h1]
  by_cases h2 : c = 6
  · rw [if_pos h2]; subst h2; exact ⟨T.a_Doubles___str__, T.df_Doubles___str__, T.isf_Doubles___str__, by rw [T.hK]; exact fnUp (j := 1) (by decide) (T.r0_Doubles___str__ (G := G))⟩
  rw [if_neg h2]
  by_cases h3 : c = 7
  · rw [if_pos h3]; subst h3; exact ⟨T.a_Overtakes___str__, T.df_Overtakes___str__, T.isf_Overtakes___str__, by rw [T.hK]; exact fnUp (j := 2) (by decide) (T.r0_Overtakes___str__ (G := G))⟩
  rw [if_neg h3]
  exact trivial
def v_Channel___str__ : BM := fnM 1 (sRet (eBM isS joinM (cst (.str " ")) (aCons (eLc (iAny (eTup (aCons (eAx at17_capacity at17_capacityx (vget 0)) (aStar (eAx at15_faults at15_faultsx (vget 0)) aNil)))) (cN 1) tTrue (eCall (b1 (strW du18__str__)) (aCons (vget 1) aNil)) [1]) aNil)))
theorem sc_Channel___str__ : FnScope ["self", "part"] ["self"] (defScope (mth 19 13)) := ⟨rfl, rfl, rfl, by decide +kernel, rfl, by decide +kernel, by decide +kernel⟩
theorem Tp.o_Channel___str__ (T : Tp w K mg G.toGb) : FnO P w K mg base (CX P w) 5 T.a_Channel___str__ T.fd_Channel___str__ ["self"] (spN G 1 v_Channel___str__) :=
  fn_up T.F_Channel___str__ sc_Channel___str__ rfl fun cdv A outer s H E hr =>
    have S := sc_Channel___str__
    (ss_one (s_ret (e_bmS (pe_bm PySem.F.plainAttrs_str PySem.F.slot_str_join PySem.F.type_str_join (m_join T.hK) (e_c pe_str fun _ _ => rfl) (a_cons (e_lc (own := [("part", 1)]) rfl S.nd (i_any T.hK (e_tup (a_cons (e_ax takes_cx T.hK (hr.mono (by decide)) (T.t_at17_capacity (G := G)) (T.t_at17_capacityx (G := G)) (e_var (pv 0))) (a_star T.hK (e_ax takes_cx T.hK (hr.mono (by decide)) (T.t_at15_faults (G := G)) (T.t_at15_faultsx (G := G)) (e_var (pv 0))) a_nil)))) (show BlkOk ["self", "part"] (defScope (mth 19 13)) _ [("part", 1)] from blkOk_by (by decide +kernel)) (gt_name (by decide)) (fun s H C cl fp => (pg_name (i := 1) S.nd rfl (by first | exact .inl rfl | exact .inr rfl))) (fun s H C cl fp tk0 => ts_none) (fun s H C cl fp tk0 => (e_callTy (c_str T.hK (hr.mono (by decide)) (T.t_du18__str__ (G := G))) rfl T.b_str boot_str (a_cons (e_var (pv 1)) a_nil)))) a_nil)))))
theorem Tp.r0_Channel___str__ (T : Tp w K mg G.toGb) : FnG P w K mg base (CX P w) 5 T.a_Channel___str__ (spR G (defM 1 [] v_Channel___str__)) :=
  fn_raw (dvs := []) (T.o_Channel___str__) (T.F_Channel___str__.bindsN fun _ _ _ _ _ _ us hl => match us, hl with | [_], _ => rfl) .nil fun _ _ => rfl
def v_need_channel : BM := fnM 0 (sIf (mNot (tst (eCall (isiA 9 clsX clsSub) (aCons (vget 0) (aCons (cst (.glo 8)) aNil))))) (sRaise 1 1 (aCons (cst (.str "other")) aNil)) sNop)
theorem sc_need_channel : FnScope ["value"] ["value"] (defScope (top 20)) := ⟨rfl, rfl, rfl, by decide +kernel, rfl, by decide +kernel, by decide +kernel⟩
theorem Tp.o_need_channel (T : Tp w K mg G.toGb) : FnO P w K mg base (CX P w) 3 T.a_need_channel T.fd_need_channel ["value"] (spN G 1 v_need_channel) :=
  fn_up T.F_need_channel sc_need_channel rfl fun cdv A outer s H E hr =>
    have S := sc_need_channel
    (ss_one (s_if (t_not (t_val T.hK (e_callB (c_isiA T.hK T.kit T.xcf) rfl T.b_isinstance boot_isinstance (a_cons (e_var (pv 0)) (a_cons (e_glo rfl T.gg_Channel) a_nil))))) (ss_one (s_raise (fl := ["part"]) takes_cx T.hK T.ex_BadChannel rfl (by decide) (by decide) T.ei_BadChannel T.et_BadChannel (T.xi_BadChannel) (hr.mono (by decide)) T.xb_BadChannel rfl T.gc_BadChannel (a_cons (e_c pe_str fun _ _ => rfl) a_nil))) ss_nil))
theorem Tp.r0_need_channel (T : Tp w K mg G.toGb) : FnG P w K mg base (CX P w) 3 T.a_need_channel (spR G (defM 1 [] v_need_channel)) :=
  fn_raw (dvs := []) (T.o_need_channel) (T.F_need_channel.bindsN fun _ _ _ _ _ _ us hl => match us, hl with | [_], _ => rfl) .nil fun _ _ => rfl
def v__law_pen (sa : Addr) (sn : List Int) : BM := fnM 0 (sRet (eLst (aCons (eCall (b1 listW) (aCons (eSlA sa sn (vget 0) oNone (oSome (cst (.int 63)))) aNil)) (aCons (cst (.int 0)) (aCons (cst (.int 0)) aNil)))))
theorem sc__law_pen : FnScope ["_law_script"] ["_law_script"] (defScope (top 23)) := ⟨rfl, rfl, rfl, by decide +kernel, rfl, by decide +kernel, by decide +kernel⟩
theorem Tp.o__law_pen (T : Tp w K mg G.toGb) {sa : Addr} {sn : List Int} (SC : ScOk G sa sn) : FnO P w K mg base (CX P w) 1 T.a__law_pen T.fd__law_pen ["_law_script"] (spN G 1 (v__law_pen sa sn)) :=
  fn_up T.F__law_pen sc__law_pen rfl fun cdv A outer s H E hr =>
    have S := sc__law_pen
    (ss_one (s_ret (e_lst (a_cons (e_callTy (c_list T.hK) rfl T.b_list boot_list (a_cons (e_slA T.hK SC (e_var (pv 0)) o_none (o_some (e_c pe_int fun _ _ => rfl))) a_nil)) (a_cons (e_c pe_int fun _ _ => rfl) (a_cons (e_c pe_int fun _ _ => rfl) a_nil))))))
theorem Tp.r0__law_pen (T : Tp w K mg G.toGb) {sa : Addr} {sn : List Int} (SC : ScOk G sa sn) : FnG P w K mg base (CX P w) 1 T.a__law_pen (spR G (defM 1 [] (v__law_pen sa sn))) :=
  fn_raw (dvs := []) (T.o__law_pen SC) (T.F__law_pen.bindsN fun _ _ _ _ _ _ us hl => match us, hl with | [_], _ => rfl) .nil fun _ _ => rfl
def du19__eq__ : Nat → Option BM := fun c => if c = 4 then some (defM 2 [] v_Fault___eq__) else if c = 5 then some (defM 2 [] v_Loses___eq__) else if c = 6 then some (defM 2 [] v_Doubles___eq__) else if c = 7 then some (defM 2 [] v_Overtakes___eq__) else if c = 8 then some (defM 2 [] v_Channel___eq__) else none
theorem Tp.t_du19__eq__ (T : Tp w K mg G.toGb) : ∀ c, DuOk P w mg base G 7 "__eq__" c (du19__eq__ c) := by
  intro c
  unfold du19__eq__
  by_cases h0 : c = 4
  · rw [if_pos h0]; subst h0; exact ⟨T.a_Fault___eq__, T.df_Fault___eq__, T.isf_Fault___eq__, by rw [T.hK]; exact fnUp (j := 3) (by decide) (T.r0_Fault___eq__ (G := G))⟩
  rw [if_neg h0]
  by_cases h1 : c = 5
  · rw [if_pos h1]; subst h1; exact ⟨T.a_Loses___eq__, T.df_Loses___eq__, T.isf_Loses___eq__, by rw [T.hK]; exact fnUp (j := 1) (by decide) (T.r0_Loses___eq__ (G := G))⟩
  rw [if_neg h1]
  by_cases h2 : c = 6
  · rw [if_pos h2]; subst h2; exact ⟨T.a_Doubles___eq__, T.df_Doubles___eq__, T.isf_Doubles___eq__, by rw [T.hK]; exact fnUp (j := 1) (by decide) (T.r0_Doubles___eq__ (G := G))⟩
  rw [if_neg h2]
  by_cases h3 : c = 7
  · rw [if_pos h3]; subst h3; exact ⟨T.a_Overtakes___eq__, T.df_Overtakes___eq__, T.isf_Overtakes___eq__, by rw [T.hK]; exact fnUp (j := 5) (by decide) (T.r0_Overtakes___eq__ (G := G))⟩
  rw [if_neg h3]
  by_cases h4 : c = 8
  · rw [if_pos h4]; subst h4; exact ⟨T.a_Channel___eq__, T.df_Channel___eq__, T.isf_Channel___eq__, by rw [T.hK]; exact fnUp (j := 7) (by decide) (T.r0_Channel___eq__ (G := G))⟩
  rw [if_neg h4]
  exact trivial
theorem Tp.t_du19__eq__n (T : Tp w K mg G.toGb) : ∀ c, (du19__eq__ c).isSome = true → PySem.W.findIn G.K (.ref (G.cls c)) "__ne__" = some (some (.builtin "object.__ne__")) := by
  intro c e
  unfold du19__eq__ at e
  by_cases h0 : c = 4
  · subst h0; exact T.ne_Fault
  rw [if_neg h0] at e
  by_cases h1 : c = 5
  · subst h1; exact T.ne_Loses
  rw [if_neg h1] at e
  by_cases h2 : c = 6
  · subst h2; exact T.ne_Doubles
  rw [if_neg h2] at e
  by_cases h3 : c = 7
  · subst h3; exact T.ne_Overtakes
  rw [if_neg h3] at e
  by_cases h4 : c = 8
  · subst h4; exact T.ne_Channel
  rw [if_neg h4] at e
  cases e
def v__law_draw_s0 : SM := (sIf (tB1 (bin (gtI) (bin ixW (vget 0) (cst (.int 2))) (cst (.int 0)))) (sSeq (sAsg (bin modW (eCall (b1 intW) (aCons (bin ixW (vget 0) (cst (.int 2))) aNil)) (vget 1)) (gNm 2))
  (sSeq (sAsg (bin divW (eCall (b1 intW) (aCons (bin ixW (vget 0) (cst (.int 2))) aNil)) (vget 1)) (gIx (vget 0) (cst (.int 2))))
  (sRet (vget 2)))) sNop)
def v__law_draw_s1 : SM := (sAsg (bin ixW (vget 0) (cst (.int 1))) (gNm 3))
def v__law_draw_s2 : SM := (sAsg (bin addW (vget 3) (cst (.int 1))) (gIx (vget 0) (cst (.int 1))))
def v__law_draw_s3 : SM := (sAsg (bin addW (bin mulI (cst (.int 60013)) (vget 3)) (cst (.int 3011))) (gNm 4))
def v__law_draw_s4 : SM := (sIf (tB1 (bin (els (datE true) (eqO true 9 clsSub du19__eq__)) (bin ixW (vget 0) (cst (.int 0))) (eLst aNil))) (sAsg (bin ixW (bin ixW (vget 0) (cst (.int 0))) (bin modW (eCall (b1 intW) (aCons (vget 3) aNil)) (eCall (b1 lenW) (aCons (bin ixW (vget 0) (cst (.int 0))) aNil)))) (gNm 4)) sNop)
def v__law_draw_s5 : SM := (sIf (mAnd (tB1 (bin (els ltI ltS) (vget 3) (eCall (b1 lenW) (aCons (bin ixW (vget 0) (cst (.int 0))) aNil)))) (tB1 (bin (geI) (eCall (b1 absW) (aCons (vget 4) aNil)) (bin powW (cst (.int 10)) (cst (.int 18)))))) (sSeq (sAsg (bin addW (bin mulI (cst (.int 2)) (bin subW (eCall (b1 absW) (aCons (vget 4) aNil)) (bin powW (cst (.int 10)) (cst (.int 18))))) (eCall (b1 intW) (aCons (bin (els ltI ltS) (vget 4) (cst (.int 0))) aNil))) (gNm 5))
  (sSeq (sAsg (bin divW (eCall (b1 intW) (aCons (vget 5) aNil)) (vget 1)) (gIx (vget 0) (cst (.int 2))))
  (sRet (bin modW (eCall (b1 intW) (aCons (vget 5) aNil)) (vget 1))))) sNop)
def v__law_draw_s6 : SM := (sAsg (bin modW (eCall (b1 intW) (aCons (bin powW (bin addW (bin addW (bin modW (eCall (b1 intW) (aCons (vget 4) aNil)) (cst (.int 2147483563))) (bin mulI (cst (.int 50021)) (vget 3))) (cst (.int 1201))) (cst (.int 5))) aNil)) (cst (.int 2147483629))) (gNm 6))
def v__law_draw_s7 : SM := (sAsg (bin modW (eCall (b1 intW) (aCons (bin powW (bin addW (bin addW (bin mulI (vget 6) (bin addW (bin mulI (cst (.int 2)) (vget 3)) (cst (.int 211)))) (bin mulI (bin mulI (cst (.int 40031)) (vget 3)) (vget 3))) (cst (.int 301))) (cst (.int 3))) aNil)) (cst (.int 2147483587))) (gNm 6))
def v__law_draw_s8 : SM := (sRet (bin modW (eCall (b1 intW) (aCons (bin divW (vget 6) (cst (.int 32))) aNil)) (vget 1)))
def v__law_draw : BM := fnM 5 (sSeq v__law_draw_s0 (sSeq v__law_draw_s1 (sSeq v__law_draw_s2 (sSeq v__law_draw_s3 (sSeq v__law_draw_s4 (sSeq v__law_draw_s5 (sSeq v__law_draw_s6 (sSeq v__law_draw_s7 v__law_draw_s8))))))))
theorem sc__law_draw : FnScope ["_law_pen_here", "_law_many", "_law_digit", "_law_spot", "_law_cell", "_law_great", "_law_mixed"] ["_law_pen_here", "_law_many"] (defScope (top 24)) := ⟨rfl, rfl, rfl, by decide +kernel, rfl, by decide +kernel, by decide +kernel⟩
theorem Tp.o__law_draw (T : Tp w K mg G.toGb) : FnO P w K mg base (CX P w) 9 T.a__law_draw T.fd__law_draw ["_law_pen_here", "_law_many"] (spN G 2 v__law_draw) :=
  fn_up T.F__law_draw sc__law_draw rfl fun cdv A outer s H E hr =>
    have S := sc__law_draw
    (ss_cons (s_if (t_cmp o_gtI (e_ix T.hK (e_var (pv 0)) (e_c pe_int fun _ _ => rfl) (fun _ _ => rfl)) (e_c pe_int fun _ _ => rfl) (nomark _)) (ss_cons (s_set (i := 2) S.nd rfl (by first | exact .inl rfl | exact .inr rfl) (e_bin o_mod (e_callTy c_int rfl T.b_int PySem.Pv.boot_int (a_cons (e_ix T.hK (e_var (pv 0)) (e_c pe_int fun _ _ => rfl) (fun _ _ => rfl)) a_nil)) (e_var (pv 1))))
  (ss_cons (s_asg (e_bin o_div (e_callTy c_int rfl T.b_int PySem.Pv.boot_int (a_cons (e_ix T.hK (e_var (pv 0)) (e_c pe_int fun _ _ => rfl) (fun _ _ => rfl)) a_nil)) (e_var (pv 1))) (g_ix (Wx := (WxE E)) (e_var (pv 0)) (e_c pe_int fun _ _ => rfl) (pg_sub (e_var (pv 0)) (e_c pe_int fun _ _ => rfl) set_list)))
  (ss_one (s_ret (e_var (pv 2)))))) ss_nil)
  (ss_cons (s_set (i := 3) S.nd rfl (by first | exact .inl rfl | exact .inr rfl) (e_ix T.hK (e_var (pv 0)) (e_c pe_int fun _ _ => rfl) (fun _ _ => rfl)))
  (ss_cons (s_asg (e_bin (o_add T.hK) (e_var (pv 3)) (e_c pe_int fun _ _ => rfl)) (g_ix (Wx := (WxE E)) (e_var (pv 0)) (e_c pe_int fun _ _ => rfl) (pg_sub (e_var (pv 0)) (e_c pe_int fun _ _ => rfl) set_list)))
  (ss_cons (s_set (i := 4) S.nd rfl (by first | exact .inl rfl | exact .inr rfl) (e_bin (o_add T.hK) (e_bin o_mulI (e_c pe_int fun _ _ => rfl) (e_var (pv 3))) (e_c pe_int fun _ _ => rfl)))
  (ss_cons (s_if (t_cmp (o_els (o_datN T.hK hr.units) (o_neO T.hK (hr.mono (by decide)) T.kit T.eqt (T.t_du19__eq__ (G := G)) (T.t_du19__eq__n))) (e_ix T.hK (e_var (pv 0)) (e_c pe_int fun _ _ => rfl) (fun _ _ => rfl)) (e_lst a_nil) (nomark _)) (ss_one (s_set (i := 4) S.nd rfl (by first | exact .inl rfl | exact .inr rfl) (e_ix T.hK (e_ix T.hK (e_var (pv 0)) (e_c pe_int fun _ _ => rfl) (fun _ _ => rfl)) (e_bin o_mod (e_callTy c_int rfl T.b_int PySem.Pv.boot_int (a_cons (e_var (pv 3)) a_nil)) (e_callB (c_len T.hK) rfl T.b_len boot_len (a_cons (e_ix T.hK (e_var (pv 0)) (e_c pe_int fun _ _ => rfl) (fun _ _ => rfl)) a_nil))) (fun _ _ => rfl)))) ss_nil)
  (ss_cons (s_if (PW.pt (w_and (t_cmp (o_els o_ltI o_ltS) (e_var (pv 3)) (e_callB (c_len T.hK) rfl T.b_len boot_len (a_cons (e_ix T.hK (e_var (pv 0)) (e_c pe_int fun _ _ => rfl) (fun _ _ => rfl)) a_nil)) (nomark _)) (w_and1 (t_cmp o_geI (e_callB c_abs rfl T.b_abs boot_abs (a_cons (e_var (pv 4)) a_nil)) (e_bin o_pow (e_c pe_int fun _ _ => rfl) (e_c pe_int fun _ _ => rfl)) (nomark _))))) (ss_cons (s_set (i := 5) S.nd rfl (by first | exact .inl rfl | exact .inr rfl) (e_bin (o_add T.hK) (e_bin o_mulI (e_c pe_int fun _ _ => rfl) (e_bin o_sub (e_callB c_abs rfl T.b_abs boot_abs (a_cons (e_var (pv 4)) a_nil)) (e_bin o_pow (e_c pe_int fun _ _ => rfl) (e_c pe_int fun _ _ => rfl)))) (e_callTy c_int rfl T.b_int PySem.Pv.boot_int (a_cons (e_cmp (o_els o_ltI o_ltS) (e_var (pv 4)) (e_c pe_int fun _ _ => rfl) (nomark _)) a_nil))))
  (ss_cons (s_asg (e_bin o_div (e_callTy c_int rfl T.b_int PySem.Pv.boot_int (a_cons (e_var (pv 5)) a_nil)) (e_var (pv 1))) (g_ix (Wx := (WxE E)) (e_var (pv 0)) (e_c pe_int fun _ _ => rfl) (pg_sub (e_var (pv 0)) (e_c pe_int fun _ _ => rfl) set_list)))
  (ss_one (s_ret (e_bin o_mod (e_callTy c_int rfl T.b_int PySem.Pv.boot_int (a_cons (e_var (pv 5)) a_nil)) (e_var (pv 1))))))) ss_nil)
  (ss_cons (s_set (i := 6) S.nd rfl (by first | exact .inl rfl | exact .inr rfl) (e_bin o_mod (e_callTy c_int rfl T.b_int PySem.Pv.boot_int (a_cons (e_bin o_pow (e_bin (o_add T.hK) (e_bin (o_add T.hK) (e_bin o_mod (e_callTy c_int rfl T.b_int PySem.Pv.boot_int (a_cons (e_var (pv 4)) a_nil)) (e_c pe_int fun _ _ => rfl)) (e_bin o_mulI (e_c pe_int fun _ _ => rfl) (e_var (pv 3)))) (e_c pe_int fun _ _ => rfl)) (e_c pe_int fun _ _ => rfl)) a_nil)) (e_c pe_int fun _ _ => rfl)))
  (ss_cons (s_set (i := 6) S.nd rfl (by first | exact .inl rfl | exact .inr rfl) (e_bin o_mod (e_callTy c_int rfl T.b_int PySem.Pv.boot_int (a_cons (e_bin o_pow (e_bin (o_add T.hK) (e_bin (o_add T.hK) (e_bin o_mulI (e_var (pv 6)) (e_bin (o_add T.hK) (e_bin o_mulI (e_c pe_int fun _ _ => rfl) (e_var (pv 3))) (e_c pe_int fun _ _ => rfl))) (e_bin o_mulI (e_bin o_mulI (e_c pe_int fun _ _ => rfl) (e_var (pv 3))) (e_var (pv 3)))) (e_c pe_int fun _ _ => rfl)) (e_c pe_int fun _ _ => rfl)) a_nil)) (e_c pe_int fun _ _ => rfl)))
  (ss_one (s_ret (e_bin o_mod (e_callTy c_int rfl T.b_int PySem.Pv.boot_int (a_cons (e_bin o_div (e_var (pv 6)) (e_c pe_int fun _ _ => rfl)) a_nil)) (e_var (pv 1)))))))))))))
theorem Tp.r0__law_draw (T : Tp w K mg G.toGb) : FnG P w K mg base (CX P w) 9 T.a__law_draw (spR G (defM 2 [] v__law_draw)) :=
  fn_raw (dvs := []) (T.o__law_draw) (T.F__law_draw.bindsN fun _ _ _ _ _ _ us hl => match us, hl with | [_, _], _ => rfl) .nil fun _ _ => rfl
def v__law_pick : BM := fnM 0 (sRet (bin ixW (vget 1) (eFn (defM 2 [] v__law_draw) (aCons (vget 0) (aCons (eCall (b1 lenW) (aCons (vget 1) aNil)) aNil)))))
theorem sc__law_pick : FnScope ["_law_pen_here", "_law_some"] ["_law_pen_here", "_law_some"] (defScope (top 25)) := ⟨rfl, rfl, rfl, by decide +kernel, rfl, by decide +kernel, by decide +kernel⟩
theorem Tp.o__law_pick (T : Tp w K mg G.toGb) : FnO P w K mg base (CX P w) 10 T.a__law_pick T.fd__law_pick ["_law_pen_here", "_law_some"] (spN G 2 v__law_pick) :=
  fn_up T.F__law_pick sc__law_pick rfl fun cdv A outer s H E hr =>
    have S := sc__law_pick
    (ss_one (s_ret (e_ix T.hK (e_var (pv 1)) (e_call takes_cx (T.r0__law_draw (G := G)) (hr.mono (by decide)) rfl T.g__law_draw T.F__law_draw.kp (a_cons (e_var (pv 0)) (a_cons (e_callB (c_len T.hK) rfl T.b_len boot_len (a_cons (e_var (pv 1)) a_nil)) a_nil))) (fun _ _ => rfl))))
theorem Tp.r0__law_pick (T : Tp w K mg G.toGb) : FnG P w K mg base (CX P w) 10 T.a__law_pick (spR G (defM 2 [] v__law_pick)) :=
  fn_raw (dvs := []) (T.o__law_pick) (T.F__law_pick.bindsN fun _ _ _ _ _ _ us hl => match us, hl with | [_, _], _ => rfl) .nil fun _ _ => rfl
def v__law_four : BM := fnM 0 (sRet (eTup (aCons (bin addW (cst (.int 1)) (eFn (defM 2 [] v__law_draw) (aCons (vget 0) (aCons (cst (.int 3)) aNil)))) (aCons (bin (els (datE false) (els (eqO false 9 clsSub du19__eq__) (eqR 9 du19__eq__))) (eFn (defM 2 [] v__law_draw) (aCons (vget 0) (aCons (cst (.int 2)) aNil))) (cst (.int 1))) (aCons (bin (els (datE false) (els (eqO false 9 clsSub du19__eq__) (eqR 9 du19__eq__))) (eFn (defM 2 [] v__law_draw) (aCons (vget 0) (aCons (cst (.int 2)) aNil))) (cst (.int 1))) (aCons (eFn (defM 2 [] v__law_draw) (aCons (vget 0) (aCons (cst (.int 3)) aNil))) aNil))))))
theorem sc__law_four : FnScope ["_law_pen_here"] ["_law_pen_here"] (defScope (top 26)) := ⟨rfl, rfl, rfl, by decide +kernel, rfl, by decide +kernel, by decide +kernel⟩
theorem Tp.o__law_four (T : Tp w K mg G.toGb) : FnO P w K mg base (CX P w) 10 T.a__law_four T.fd__law_four ["_law_pen_here"] (spN G 1 v__law_four) :=
  fn_up T.F__law_four sc__law_four rfl fun cdv A outer s H E hr =>
    have S := sc__law_four
    (ss_one (s_ret (e_tup (a_cons (e_bin (o_add T.hK) (e_c pe_int fun _ _ => rfl) (e_call takes_cx (T.r0__law_draw (G := G)) (hr.mono (by decide)) rfl T.g__law_draw T.F__law_draw.kp (a_cons (e_var (pv 0)) (a_cons (e_c pe_int fun _ _ => rfl) a_nil)))) (a_cons (e_cmp (o_els (o_datE T.hK hr.units) (o_els (o_eqO T.hK (hr.mono (by decide)) T.kit T.eqt (T.t_du19__eq__ (G := G))) (o_eqR T.hK (hr.mono (by decide)) T.eqt (T.t_du19__eq__ (G := G))))) (e_call takes_cx (T.r0__law_draw (G := G)) (hr.mono (by decide)) rfl T.g__law_draw T.F__law_draw.kp (a_cons (e_var (pv 0)) (a_cons (e_c pe_int fun _ _ => rfl) a_nil))) (e_c pe_int fun _ _ => rfl) (nomark _)) (a_cons (e_cmp (o_els (o_datE T.hK hr.units) (o_els (o_eqO T.hK (hr.mono (by decide)) T.kit T.eqt (T.t_du19__eq__ (G := G))) (o_eqR T.hK (hr.mono (by decide)) T.eqt (T.t_du19__eq__ (G := G))))) (e_call takes_cx (T.r0__law_draw (G := G)) (hr.mono (by decide)) rfl T.g__law_draw T.F__law_draw.kp (a_cons (e_var (pv 0)) (a_cons (e_c pe_int fun _ _ => rfl) a_nil))) (e_c pe_int fun _ _ => rfl) (nomark _)) (a_cons (e_call takes_cx (T.r0__law_draw (G := G)) (hr.mono (by decide)) rfl T.g__law_draw T.F__law_draw.kp (a_cons (e_var (pv 0)) (a_cons (e_c pe_int fun _ _ => rfl) a_nil))) a_nil)))))))
theorem Tp.r0__law_four (T : Tp w K mg G.toGb) : FnG P w K mg base (CX P w) 10 T.a__law_four (spR G (defM 1 [] v__law_four)) :=
  fn_raw (dvs := []) (T.o__law_four) (T.F__law_four.bindsN fun _ _ _ _ _ _ us hl => match us, hl with | [_], _ => rfl) .nil fun _ _ => rfl
def v__law_faults_s0 : SM := (sAsg (bin addW (vIf (tst (bin ixW (vget 0) (cst (.int 1)))) (eLst (aCons (eNew0 frzO 5 0) aNil)) (eLst aNil)) (vIf (tst (bin ixW (vget 0) (cst (.int 2)))) (eLst (aCons (eNew0 frzO 6 0) aNil)) (eLst aNil))) (gNm 1))
def v__law_faults_s1 : SM := (sRet (bin addW (vget 1) (vIf (tB1 (bin (gtI) (bin ixW (vget 0) (cst (.int 3))) (cst (.int 0)))) (eLst (aCons (eNew frzO 7 1 (defM 2 [] v_Overtakes___init__) (aCons (bin ixW (vget 0) (cst (.int 3))) aNil)) aNil)) (eLst aNil))))
def v__law_faults : BM := fnM 1 (sSeq v__law_faults_s0 v__law_faults_s1)
theorem sc__law_faults : FnScope ["_law_told_here", "_law_some"] ["_law_told_here"] (defScope (top 27)) := ⟨rfl, rfl, rfl, by decide +kernel, rfl, by decide +kernel, by decide +kernel⟩
theorem Tp.o__law_faults (T : Tp w K mg G.toGb) : FnO P w K mg base (CX P w) 5 T.a__law_faults T.fd__law_faults ["_law_told_here"] (spN G 1 v__law_faults) :=
  fn_up T.F__law_faults sc__law_faults rfl fun cdv A outer s H E hr =>
    have S := sc__law_faults
    (ss_cons (s_set (i := 1) S.nd rfl (by first | exact .inl rfl | exact .inr rfl) (e_bin (o_add T.hK) (e_if (t_val T.hK (e_ix T.hK (e_var (pv 0)) (e_c pe_int fun _ _ => rfl) (fun _ _ => rfl))) (e_lst (a_cons (e_new0 (fin := frzO) (fun h1 h2 h3 => frz_post h1 h2 (by rw [T.fl_Loses]; rfl) h3) T.hK T.mk0_Loses rfl T.gc_Loses) a_nil)) (e_lst a_nil)) (e_if (t_val T.hK (e_ix T.hK (e_var (pv 0)) (e_c pe_int fun _ _ => rfl) (fun _ _ => rfl))) (e_lst (a_cons (e_new0 (fin := frzO) (fun h1 h2 h3 => frz_post h1 h2 (by rw [T.fl_Doubles]; rfl) h3) T.hK T.mk0_Doubles rfl T.gc_Doubles) a_nil)) (e_lst a_nil))))
  (ss_one (s_ret (e_bin (o_add T.hK) (e_var (pv 1)) (e_if (t_cmp o_gtI (e_ix T.hK (e_var (pv 0)) (e_c pe_int fun _ _ => rfl) (fun _ _ => rfl)) (e_c pe_int fun _ _ => rfl) (nomark _)) (e_lst (a_cons (e_new (fin := frzO) (fun h1 h2 h3 => frz_post h1 h2 (by rw [T.fl_Overtakes]; rfl) h3) takes_cx T.hK T.mk_Overtakes (T.r0_Overtakes___init__ (G := G)) (hr.mono (by decide)) rfl T.gc_Overtakes (a_cons (e_ix T.hK (e_var (pv 0)) (e_c pe_int fun _ _ => rfl) (fun _ _ => rfl)) a_nil)) a_nil)) (e_lst a_nil))))))
theorem Tp.r0__law_faults (T : Tp w K mg G.toGb) : FnG P w K mg base (CX P w) 5 T.a__law_faults (spR G (defM 1 [] v__law_faults)) :=
  fn_raw (dvs := []) (T.o__law_faults) (T.F__law_faults.bindsN fun _ _ _ _ _ _ us hl => match us, hl with | [_], _ => rfl) .nil fun _ _ => rfl
def v__law_channel_s0 : SM := (sAsg (eUn revW (eFn (defM 1 [] v__law_faults) (aCons (vget 0) aNil))) (gNm 1))
def v__law_channel_s1 : SM := (sIf (tB1 (bin (els (datE false) (els (eqO false 9 clsSub du19__eq__) (eqR 9 du19__eq__))) (eCall (b1 lenW) (aCons (vget 1) aNil)) (cst (.int 0)))) (sRet (eNew frzO 8 2 (defS 2 v_Channel___init__) (aCons (bin ixW (vget 0) (cst (.int 0))) aNil))) sNop)
def v__law_channel_s2 : SM := (sIf (tB1 (bin (els (datE false) (els (eqO false 9 clsSub du19__eq__) (eqR 9 du19__eq__))) (eCall (b1 lenW) (aCons (vget 1) aNil)) (cst (.int 1)))) (sRet (eNew frzO 8 2 (defS 2 v_Channel___init__) (aCons (bin ixW (vget 0) (cst (.int 0))) (aCons (bin ixW (vget 1) (cst (.int 0))) aNil)))) sNop)
def v__law_channel_s3 : SM := (sRet (vIf (tB1 (bin (els (datE false) (els (eqO false 9 clsSub du19__eq__) (eqR 9 du19__eq__))) (eCall (b1 lenW) (aCons (vget 1) aNil)) (cst (.int 2)))) (eNew frzO 8 2 (defS 2 v_Channel___init__) (aCons (bin ixW (vget 0) (cst (.int 0))) (aCons (bin ixW (vget 1) (cst (.int 0))) (aCons (bin ixW (vget 1) (cst (.int 1))) aNil)))) (eNew frzO 8 2 (defS 2 v_Channel___init__) (aCons (bin ixW (vget 0) (cst (.int 0))) (aCons (bin ixW (vget 1) (cst (.int 0))) (aCons (bin ixW (vget 1) (cst (.int 1))) (aCons (bin ixW (vget 1) (cst (.int 2))) aNil)))))))
def v__law_channel : BM := fnM 1 (sSeq v__law_channel_s0 (sSeq v__law_channel_s1 (sSeq v__law_channel_s2 v__law_channel_s3)))
theorem sc__law_channel : FnScope ["_law_told_here", "_law_some"] ["_law_told_here"] (defScope (top 28)) := ⟨rfl, rfl, rfl, by decide +kernel, rfl, by decide +kernel, by decide +kernel⟩
theorem Tp.o__law_channel (T : Tp w K mg G.toGb) : FnO P w K mg base (CX P w) 10 T.a__law_channel T.fd__law_channel ["_law_told_here"] (spN G 1 v__law_channel) :=
  fn_up T.F__law_channel sc__law_channel rfl fun cdv A outer s H E hr =>
    have S := sc__law_channel
    (ss_cons (s_set (i := 1) S.nd rfl (by first | exact .inl rfl | exact .inr rfl) (e_rev T.hK (e_call takes_cx (T.r0__law_faults (G := G)) (hr.mono (by decide)) rfl T.g__law_faults T.F__law_faults.kp (a_cons (e_var (pv 0)) a_nil))))
  (ss_cons (s_if (t_cmp (o_els (o_datE T.hK hr.units) (o_els (o_eqO T.hK (hr.mono (by decide)) T.kit T.eqt (T.t_du19__eq__ (G := G))) (o_eqR T.hK (hr.mono (by decide)) T.eqt (T.t_du19__eq__ (G := G))))) (e_callB (c_len T.hK) rfl T.b_len boot_len (a_cons (e_var (pv 1)) a_nil)) (e_c pe_int fun _ _ => rfl) (nomark _)) (ss_one (s_ret (e_new (fin := frzO) (fun h1 h2 h3 => frz_post h1 h2 (by rw [T.fl_Channel]; rfl) h3) takes_cx T.hK T.mk_Channel (T.r0_Channel___init__ (G := G)) (hr.mono (by decide)) rfl T.gc_Channel (a_cons (e_ix T.hK (e_var (pv 0)) (e_c pe_int fun _ _ => rfl) (fun _ _ => rfl)) a_nil)))) ss_nil)
  (ss_cons (s_if (t_cmp (o_els (o_datE T.hK hr.units) (o_els (o_eqO T.hK (hr.mono (by decide)) T.kit T.eqt (T.t_du19__eq__ (G := G))) (o_eqR T.hK (hr.mono (by decide)) T.eqt (T.t_du19__eq__ (G := G))))) (e_callB (c_len T.hK) rfl T.b_len boot_len (a_cons (e_var (pv 1)) a_nil)) (e_c pe_int fun _ _ => rfl) (nomark _)) (ss_one (s_ret (e_new (fin := frzO) (fun h1 h2 h3 => frz_post h1 h2 (by rw [T.fl_Channel]; rfl) h3) takes_cx T.hK T.mk_Channel (T.r0_Channel___init__ (G := G)) (hr.mono (by decide)) rfl T.gc_Channel (a_cons (e_ix T.hK (e_var (pv 0)) (e_c pe_int fun _ _ => rfl) (fun _ _ => rfl)) (a_cons (e_ix T.hK (e_var (pv 1)) (e_c pe_int fun _ _ => rfl) (fun _ _ => rfl)) a_nil))))) ss_nil)
  (ss_one (s_ret (e_if (t_cmp (o_els (o_datE T.hK hr.units) (o_els (o_eqO T.hK (hr.mono (by decide)) T.kit T.eqt (T.t_du19__eq__ (G := G))) (o_eqR T.hK (hr.mono (by decide)) T.eqt (T.t_du19__eq__ (G := G))))) (e_callB (c_len T.hK) rfl T.b_len boot_len (a_cons (e_var (pv 1)) a_nil)) (e_c pe_int fun _ _ => rfl) (nomark _)) (e_new (fin := frzO) (fun h1 h2 h3 => frz_post h1 h2 (by rw [T.fl_Channel]; rfl) h3) takes_cx T.hK T.mk_Channel (T.r0_Channel___init__ (G := G)) (hr.mono (by decide)) rfl T.gc_Channel (a_cons (e_ix T.hK (e_var (pv 0)) (e_c pe_int fun _ _ => rfl) (fun _ _ => rfl)) (a_cons (e_ix T.hK (e_var (pv 1)) (e_c pe_int fun _ _ => rfl) (fun _ _ => rfl)) (a_cons (e_ix T.hK (e_var (pv 1)) (e_c pe_int fun _ _ => rfl) (fun _ _ => rfl)) a_nil)))) (e_new (fin := frzO) (fun h1 h2 h3 => frz_post h1 h2 (by rw [T.fl_Channel]; rfl) h3) takes_cx T.hK T.mk_Channel (T.r0_Channel___init__ (G := G)) (hr.mono (by decide)) rfl T.gc_Channel (a_cons (e_ix T.hK (e_var (pv 0)) (e_c pe_int fun _ _ => rfl) (fun _ _ => rfl)) (a_cons (e_ix T.hK (e_var (pv 1)) (e_c pe_int fun _ _ => rfl) (fun _ _ => rfl)) (a_cons (e_ix T.hK (e_var (pv 1)) (e_c pe_int fun _ _ => rfl) (fun _ _ => rfl)) (a_cons (e_ix T.hK (e_var (pv 1)) (e_c pe_int fun _ _ => rfl) (fun _ _ => rfl)) a_nil)))))))))))
theorem Tp.r0__law_channel (T : Tp w K mg G.toGb) : FnG P w K mg base (CX P w) 10 T.a__law_channel (spR G (defM 1 [] v__law_channel)) :=
  fn_raw (dvs := []) (T.o__law_channel) (T.F__law_channel.bindsN fun _ _ _ _ _ _ us hl => match us, hl with | [_], _ => rfl) .nil fun _ _ => rfl
def at20_doubles : Nat → At := fun c => if c = 8 then At.prop (defM 1 [] v_Channel_doubles) else At.no
def at20_doublesx : Nat → Option Nat := fun c => none
theorem Tp.t_at20_doubles (T : Tp w K mg G.toGb) : ∀ c, AtOk P w mg base G 7 "doubles" c (at20_doubles c) := by
  intro c
  unfold at20_doubles
  by_cases h0 : c = 8
  · rw [if_pos h0]; subst h0; exact ⟨T.cl_Channel, T.p_Channel_doubles, T.a_Channel_doubles, T.po_Channel_doubles, by rw [T.hK]; exact fnUp (j := 7) (by decide) (T.r0_Channel_doubles (G := G))⟩
  rw [if_neg h0]
  exact trivial
theorem Tp.t_at20_doublesx (T : Tp w K mg G.toGb) : ∀ c i, at20_doublesx c = some i → XcF G c ∧ (G.flds c)[i]? = some "doubles" := by
  intro c i e
  unfold at20_doublesx at e
  cases e
def at21_loses : Nat → At := fun c => if c = 8 then At.prop (defM 1 [] v_Channel_loses) else At.no
def at21_losesx : Nat → Option Nat := fun c => none
theorem Tp.t_at21_loses (T : Tp w K mg G.toGb) : ∀ c, AtOk P w mg base G 7 "loses" c (at21_loses c) := by
  intro c
  unfold at21_loses
  by_cases h0 : c = 8
  · rw [if_pos h0]; subst h0; exact ⟨T.cl_Channel, T.p_Channel_loses, T.a_Channel_loses, T.po_Channel_loses, by rw [T.hK]; exact fnUp (j := 7) (by decide) (T.r0_Channel_loses (G := G))⟩
  rw [if_neg h0]
  exact trivial
theorem Tp.t_at21_losesx (T : Tp w K mg G.toGb) : ∀ c i, at21_losesx c = some i → XcF G c ∧ (G.flds c)[i]? = some "loses" := by
  intro c i e
  unfold at21_losesx at e
  cases e
def v__law_told : BM := fnM 0 (sRet (eTup (aCons (eAx at17_capacity at17_capacityx (vget 0)) (aCons (eAx at21_loses at21_losesx (vget 0)) (aCons (eAx at20_doubles at20_doublesx (vget 0)) (aCons (eAx at16_overtakes at16_overtakesx (vget 0)) aNil))))))
theorem sc__law_told : FnScope ["_law_channel_here"] ["_law_channel_here"] (defScope (top 29)) := ⟨rfl, rfl, rfl, by decide +kernel, rfl, by decide +kernel, by decide +kernel⟩
theorem Tp.o__law_told (T : Tp w K mg G.toGb) : FnO P w K mg base (CX P w) 9 T.a__law_told T.fd__law_told ["_law_channel_here"] (spN G 1 v__law_told) :=
  fn_up T.F__law_told sc__law_told rfl fun cdv A outer s H E hr =>
    have S := sc__law_told
    (ss_one (s_ret (e_tup (a_cons (e_ax takes_cx T.hK (hr.mono (by decide)) (T.t_at17_capacity (G := G)) (T.t_at17_capacityx (G := G)) (e_var (pv 0))) (a_cons (e_ax takes_cx T.hK (hr.mono (by decide)) (T.t_at21_loses (G := G)) (T.t_at21_losesx (G := G)) (e_var (pv 0))) (a_cons (e_ax takes_cx T.hK (hr.mono (by decide)) (T.t_at20_doubles (G := G)) (T.t_at20_doublesx (G := G)) (e_var (pv 0))) (a_cons (e_ax takes_cx T.hK (hr.mono (by decide)) (T.t_at16_overtakes (G := G)) (T.t_at16_overtakesx (G := G)) (e_var (pv 0))) a_nil)))))))
theorem Tp.r0__law_told (T : Tp w K mg G.toGb) : FnG P w K mg base (CX P w) 9 T.a__law_told (spR G (defM 1 [] v__law_told)) :=
  fn_raw (dvs := []) (T.o__law_told) (T.F__law_told.bindsN fun _ _ _ _ _ _ us hl => match us, hl with | [_], _ => rfl) .nil fun _ _ => rfl
def at22_part : Nat → At := fun c => At.no
def at22_partx : Nat → Option Nat := fun c => if c = 1 then some 0 else none
theorem Tp.t_at22_part (T : Tp w K mg G.toGb) : ∀ c, AtOk P w mg base G 0 "part" c (at22_part c) := by
  intro c
  unfold at22_part
  exact trivial
theorem Tp.t_at22_partx (T : Tp w K mg G.toGb) : ∀ c i, at22_partx c = some i → XcF G c ∧ (G.flds c)[i]? = some "part" := by
  intro c i e
  unfold at22_partx at e
  by_cases h0 : c = 1
  · rw [if_pos h0] at e; cases e; subst h0; exact ⟨T.xf_BadChannel, by rw [T.fl_BadChannel]; rfl⟩
  rw [if_neg h0] at e
  cases e
theorem sc__law_heard : FnScope ["_law_ask", "_law_caught", "error", "_law_is_value"] ["_law_ask"] (defScope (top 30)) := ⟨rfl, rfl, rfl, by decide +kernel, rfl, by decide +kernel, by decide +kernel⟩
@[simp] def hb__law_heard (af : Addr) (fm : M W) : SM := (sSeq (sAsg (cst .non) (gNm 1))
  (sSeq (sTry (sRet (eLst (aCons (eAsk af fm) aNil))) (xmS clsX clsSub 0) 2 1)
  (sSeq (sAsg (eCall (isiV "ValueError" clsX fun _ => true) (aCons (vget 1) (aCons (cst (.ty "ValueError")) aNil))) (gNm 3))
  (sRet (vIf (mAnd (tst (eCall (isiA 9 clsX clsSub) (aCons (vget 1) (aCons (cst (.glo 1)) aNil)))) (tst (vget 3))) (eTup (aCons (cst (.str "channel")) (aCons (eAx at22_part at22_partx (vget 1)) aNil))) (eTup (aCons (cst (.str "odd")) aNil)))))))
def heard__law_heard (fm : M W) : M W := fun S => runB (hb__law_heard 0 fm (some (.adr 0) :: List.replicate 3 none) S)
theorem conv__law_heard : ∀ f fm S, runB (hb__law_heard f fm (some (.adr f) :: List.replicate 3 none) S) = heard__law_heard fm S := by
  intro f fm S
  cases h : fm S with
  | ok v S1 => simp [heard__law_heard, h, show (1 : Nat) ≤ big from by decide]
  | stuck => simp [heard__law_heard, h]
  | exc c fs S1 =>
    unfold heard__law_heard hb__law_heard
    simp only [sSeq, sTry, sAsg, sRet, sDrp, cst, gNm, ofG, toS, eLst, eTup, eCall, aCons, aNil, eAsk, h, Res.bind, List.set_cons_zero, List.set_cons_succ, List.getElem?_cons_zero, List.replicate, if_true, List.length_cons, List.length_nil, eBM, isL]
    cases xmS clsX clsSub 0 c with
    | none => rfl
    | some b =>
      cases b with
      | false => rfl
      | true =>
        show runB ((sSeq (sAsg (eCall (isiV "ValueError" clsX fun _ => true) (aCons (vget 1) (aCons (cst (.ty "ValueError")) aNil))) (gNm 3))
  (sRet (vIf (mAnd (tst (eCall (isiA 9 clsX clsSub) (aCons (vget 1) (aCons (cst (.glo 1)) aNil)))) (tst (vget 3))) (eTup (aCons (cst (.str "channel")) (aCons (eAx at22_part at22_partx (vget 1)) aNil))) (eTup (aCons (cst (.str "odd")) aNil))))) [some (W.adr f), some (W.exc c fs), none, none] S1) = runB ((sSeq (sAsg (eCall (isiV "ValueError" clsX fun _ => true) (aCons (vget 1) (aCons (cst (.ty "ValueError")) aNil))) (gNm 3))
  (sRet (vIf (mAnd (tst (eCall (isiA 9 clsX clsSub) (aCons (vget 1) (aCons (cst (.glo 1)) aNil)))) (tst (vget 3))) (eTup (aCons (cst (.str "channel")) (aCons (eAx at22_part at22_partx (vget 1)) aNil))) (eTup (aCons (cst (.str "odd")) aNil))))) [some (W.adr 0), some (W.exc c fs), none, none] S1)
        first
          | exact asgret_ind rfl (fun _ _ _ _ => trivial) (fun _ _ => ret_ind rfl)
          | rfl
          | exact ret_ind rfl
          | exact ifret_ind rfl (fun _ => rfl) (fun _ => ret_ind rfl)
          | exact ifret_ind rfl (fun _ => rfl) (fun _ => ifret_ind rfl (fun _ => rfl) (fun _ => ret_ind rfl))
          | exact ifret_ind rfl (fun _ => rfl) (fun _ => ifret_ind rfl (fun _ => rfl) (fun _ => ifret_ind rfl (fun _ => rfl) (fun _ => ret_ind rfl)))
theorem hb_ok__law_heard {B : Gb} (T : Tp w K mg B) {G : Gi} (hG : G.toGb = B) {XA : Around} {cdv : Value} {outer : List Env} {s : Shared} {H : Hp} {E : XK} {af : Addr} {fm : M W} (hr : Rm 1 (XA.deeper (envOfC "_law_heard" (defScope (top 30)) s.heap.objs.size T.a__law_heard cdv)))
    (ask : ∀ (W1 : WX) (pn : List (Addr × Obj)) (xe : Value → Shared → Prop) (p1 p2 : Pos), Takes ((cxOf (CX P w) P w K mg base ["_law_ask", "_law_caught", "error", "_law_is_value"] "_law_heard" (defScope (top 30)) T.a__law_heard cdv XA outer s H E).tr pn xe) W1 →
        PE ((cxOf (CX P w) P w K mg base ["_law_ask", "_law_caught", "error", "_law_is_value"] "_law_heard" (defScope (top 30)) T.a__law_heard cdv XA outer s H E).tr pn xe) (.Call (.Name "_law_ask" p1) [] [] p2) (upE G W1 (eAsk af fm))) :
    PSs (cxOf (CX P w) P w K mg base ["_law_ask", "_law_caught", "error", "_law_is_value"] "_law_heard" (defScope (top 30)) T.a__law_heard cdv XA outer s H E) (defBody (top 30)) (upS G (WxE E) (hb__law_heard af fm)) := by
  subst hG
  exact
    have S := sc__law_heard
    (ss_cons (s_set (i := 1) S.nd rfl (by first | exact .inl rfl | exact .inr rfl) (e_c pe_non fun _ _ => rfl))
  (ss_cons (s_try (i := 2) (j := 1) T.hK S.nd rfl rfl (by decide) rfl rfl rfl rfl T.gc_LinkError (T.xm.s 0) takes_cx (fun W1 pn1 xe1 tk1 pa1 => (ss_one (s_ret (e_lst (a_cons (ask _ _ _ _ _ tk1) a_nil))))))
  (ss_cons (s_set (i := 3) S.nd rfl (by first | exact .inl rfl | exact .inr rfl) (e_callB (c_isiV (n := 9) (sub := clsSub) T.hK T.xcf T.ve_ValueError) rfl T.b_isinstance boot_isinstance (a_cons (e_var (pv 1)) (a_cons (e_ty rfl T.b_ValueError boot_ValueError) a_nil))))
  (ss_one (s_ret (e_if (PW.pt (w_and (t_val T.hK (e_callB (c_isiA T.hK T.kit T.xcf) rfl T.b_isinstance boot_isinstance (a_cons (e_var (pv 1)) (a_cons (e_glo rfl T.gg_BadChannel) a_nil)))) (w_and1 (t_val T.hK (e_var (pv 3)))))) (e_tup (a_cons (e_c pe_str fun _ _ => rfl) (a_cons (e_ax takes_cx T.hK (hr.mono (by decide)) (T.t_at22_part (G := G)) (T.t_at22_partx (G := G)) (e_var (pv 1))) a_nil))) (e_tup (a_cons (e_c pe_str fun _ _ => rfl) a_nil))))))))
def it23__iter__ : Nat → Option BM := fun c => if c = 8 then some v_Channel___iter__ else none
theorem Tp.t_it23__iter__ (T : Tp w K mg G.toGb) : ∀ c, ItOk P w mg base G 2 c (it23__iter__ c) := by
  intro c
  unfold it23__iter__
  by_cases h0 : c = 8
  · rw [if_pos h0]; subst h0; exact ⟨T.a_Channel___iter__, T.df_Channel___iter__, T.isf_Channel___iter__, by rw [T.hK]; exact FnIt.up (j := 2) (by decide) (T.it_Channel___iter__ (G := G))⟩
  rw [if_neg h0]
  exact trivial
theorem Tp.nl_it23__iter__ (T : Tp w K mg G.toGb) : NoLen G it23__iter__ := by
  intro c g e
  unfold it23__iter__ at e
  by_cases h0 : c = 8
  · subst h0; exact ⟨T.nl_Channel, T.nh_Channel⟩
  rw [if_neg h0] at e
  cases e
def du24__str__ : Nat → Option BM := fun c => if c = 4 then some (defM 1 [] v_Fault___str__) else if c = 5 then some (defM 1 [] v_Loses___str__) else if c = 6 then some (defM 1 [] v_Doubles___str__) else if c = 7 then some (defM 1 [] v_Overtakes___str__) else if c = 8 then some (defM 1 [] v_Channel___str__) else none
theorem Tp.t_du24__str__ (T : Tp w K mg G.toGb) : ∀ c, DuOk P w mg base G 5 "__str__" c (du24__str__ c) := by
  intro c
  unfold du24__str__
  by_cases h0 : c = 4
  · rw [if_pos h0]; subst h0; exact ⟨T.a_Fault___str__, T.df_Fault___str__, T.isf_Fault___str__, by rw [T.hK]; exact fnUp (j := 1) (by decide) (T.r0_Fault___str__ (G := G))⟩
  rw [if_neg h0]
  by_cases h1 : c = 5
  · rw [if_pos h1]; subst h1; exact ⟨T.a_Loses___str__, T.df_Loses___str__, T.isf_Loses___str__, by rw [T.hK]; exact fnUp (j := 1) (by decide) (T.r0_Loses___str__ (G := G))⟩
  rw [if_neg h1]
  by_cases h2 : c = 6
  · rw [if_pos h2]; subst h2; exact ⟨T.a_Doubles___str__, T.df_Doubles___str__, T.isf_Doubles___str__, by rw [T.hK]; exact fnUp (j := 1) (by decide) (T.r0_Doubles___str__ (G := G))⟩
  rw [if_neg h2]
  by_cases h3 : c = 7
  · rw [if_pos h3]; subst h3; exact ⟨T.a_Overtakes___str__, T.df_Overtakes___str__, T.isf_Overtakes___str__, by rw [T.hK]; exact fnUp (j := 2) (by decide) (T.r0_Overtakes___str__ (G := G))⟩
  rw [if_neg h3]
  by_cases h4 : c = 8
  · rw [if_pos h4]; subst h4; exact ⟨T.a_Channel___str__, T.df_Channel___str__, T.isf_Channel___str__, by rw [T.hK]; exact fnUp (j := 5) (by decide) (T.r0_Channel___str__ (G := G))⟩
  rw [if_neg h4]
  exact trivial
def v__law_made_right_s0 : SM := (sPar [1, 2] (aCons (eFn (defM 1 [] v__law_four) (aCons (vget 0) aNil)) (aCons (eFn (defM 1 [] v__law_four) (aCons (vget 0) aNil)) aNil)))
def v__law_made_right_s1 : SM := (sAsg (eTup (aCons (eFn (defM 1 [] v__law_channel) (aCons (vget 1) aNil)) (aCons (eFn (defM 1 [] v__law_channel) (aCons (vget 2) aNil)) aNil))) (gTp 2 (gCn (gNm 3) (gCn (gNm 4) gNl))))
def v__law_made_right_s2 : SM := (sIf (mOr (tB1 (bin (els (datE true) (eqO true 9 clsSub du19__eq__)) (eCall (elsB (b1 reprI) (b1 reprD)) (aCons (eFn (defM 1 [] v__law_told) (aCons (vget 3) aNil)) aNil)) (eCall (elsB (b1 reprI) (b1 reprD)) (aCons (vget 1) aNil)))) (tB1 (bin (els (datE true) (els (eqO true 9 clsSub du19__eq__) (seqL true 9 clsSub du19__eq__))) (eLc (iEl (iAny (vget 3)) (iOwn it23__iter__ (vget 3))) (cN 5) tTrue (vget 5) [5]) (eFn (defM 1 [] v__law_faults) (aCons (vget 1) aNil))))) (sRet (cst (.bl false))) sNop)
def v__law_made_right_s3 : SM := (sIf (mOr (tB1 (bin (els (datE true) (eqO true 9 clsSub du19__eq__)) (bin (els (datE false) (els (eqO false 9 clsSub du19__eq__) (eqR 9 du19__eq__))) (vget 3) (vget 4)) (bin (els (datE false) (els (eqO false 9 clsSub du19__eq__) (eqR 9 du19__eq__))) (vget 1) (vget 2)))) (tB1 (bin (els (datE true) (eqO true 9 clsSub du19__eq__)) (bin (els (datE true) (eqO true 9 clsSub du19__eq__)) (vget 3) (vget 4)) (bin (els (datE true) (eqO true 9 clsSub du19__eq__)) (vget 1) (vget 2))))) (sRet (cst (.bl false))) sNop)
def v__law_made_right_s4 : SM := (sAsg (eLst (aCons (cst .non) (aCons (vget 1) (aCons (eCall (b1 (strW du24__str__)) (aCons (vget 3) aNil)) (aCons (bin ixW (vget 1) (cst (.int 0))) (aCons (eFn (defM 1 [] v__law_faults) (aCons (vget 1) aNil)) (aCons (eNew0 frzO 5 0) aNil))))))) (gNm 6))
def v__law_made_right_s5 : SM := (sIf (tB1 (bin (els (datE true) (eqO true 9 clsSub du19__eq__)) (eLc (iAny (vget 6)) (cN 7) (tB1 (bin (els (datE false) (els (eqO false 9 clsSub du19__eq__) (eqR 9 du19__eq__))) (vget 3) (vget 7))) (vget 7) [7]) (eLst aNil))) (sRet (cst (.bl false))) sNop)
def v__law_made_right_s6 : SM := (sAsg (eLc (iAny (eCall (b1 (listO it23__iter__)) (aCons (vget 3) aNil))) (cN 5) tTrue (eCall (b1 (strW du24__str__)) (aCons (vget 5) aNil)) [5]) (gNm 8))
def v__law_made_right_s7 : SM := (sAsg (bin addW (bin addW (bin repL (eLst (aCons (cst (.str "loses")) aNil)) (eCall (b1 intW) (aCons (bin ixW (vget 1) (cst (.int 1))) aNil))) (bin repL (eLst (aCons (cst (.str "doubles")) aNil)) (eCall (b1 intW) (aCons (bin ixW (vget 1) (cst (.int 2))) aNil)))) (bin repL (eLst (aCons (bin addW (cst (.str "overtakes ")) (eCall (b1 (strW du24__str__)) (aCons (bin ixW (vget 1) (cst (.int 3))) aNil))) aNil)) (eCall (b1 intW) (aCons (bin (gtI) (bin ixW (vget 1) (cst (.int 3))) (cst (.int 0))) aNil)))) (gNm 9))
def v__law_made_right_s8 : SM := (sRet (vAnd (bin (els (datE false) (els (eqO false 9 clsSub du19__eq__) (eqR 9 du19__eq__))) (vget 8) (vget 9)) (bin (els (datE false) (els (eqO false 9 clsSub du19__eq__) (eqR 9 du19__eq__))) (vget 3) (eFn (defM 1 [] v__law_channel) (aCons (vget 1) aNil)))))
def v__law_made_right : BM := fnM 9 (sSeq v__law_made_right_s0 (sSeq v__law_made_right_s1 (sSeq v__law_made_right_s2 (sSeq v__law_made_right_s3 (sSeq v__law_made_right_s4 (sSeq v__law_made_right_s5 (sSeq v__law_made_right_s6 (sSeq v__law_made_right_s7 v__law_made_right_s8))))))))
theorem sc__law_made_right : FnScope ["_law_pen_here", "_law_told_here", "_law_some", "_law_channel_here", "_law_other", "_law_fault", "_law_strange", "_law_thing", "_law_found", "_law_due"] ["_law_pen_here"] (defScope (top 31)) := ⟨rfl, rfl, rfl, by decide +kernel, rfl, by decide +kernel, by decide +kernel⟩
theorem Tp.o__law_made_right (T : Tp w K mg G.toGb) : FnO P w K mg base (CX P w) 11 T.a__law_made_right T.fd__law_made_right ["_law_pen_here"] (spN G 1 v__law_made_right) :=
  fn_up T.F__law_made_right sc__law_made_right rfl fun cdv A outer s H E hr =>
    have S := sc__law_made_right
    (ss_cons (s_par (i := 1) (j := 2) S.nd rfl rfl (by decide) rfl rfl (a_cons (e_call takes_cx (T.r0__law_four (G := G)) (hr.mono (by decide)) rfl T.g__law_four T.F__law_four.kp (a_cons (e_var (pv 0)) a_nil)) (a_cons (e_call takes_cx (T.r0__law_four (G := G)) (hr.mono (by decide)) rfl T.g__law_four T.F__law_four.kp (a_cons (e_var (pv 0)) a_nil)) a_nil)))
  (ss_cons (s_asg (e_tup (a_cons (e_call takes_cx (T.r0__law_channel (G := G)) (hr.mono (by decide)) rfl T.g__law_channel T.F__law_channel.kp (a_cons (e_var (pv 1)) a_nil)) (a_cons (e_call takes_cx (T.r0__law_channel (G := G)) (hr.mono (by decide)) rfl T.g__law_channel T.F__law_channel.kp (a_cons (e_var (pv 2)) a_nil)) a_nil))) (g_tup T.hK rfl (gs_cons (g_name (i := 3) (pg_name S.nd rfl (by first | exact .inl rfl | exact .inr rfl))) (gs_cons (g_name (i := 4) (pg_name S.nd rfl (by first | exact .inl rfl | exact .inr rfl))) gs_nil))))
  (ss_cons (s_if (PW.pt (w_or (t_cmp (o_els (o_datN T.hK hr.units) (o_neO T.hK (hr.mono (by decide)) T.kit T.eqt (T.t_du19__eq__ (G := G)) (T.t_du19__eq__n))) (e_callB (c_repr T.hK hr) rfl T.b_repr boot_repr (a_cons (e_call takes_cx (T.r0__law_told (G := G)) (hr.mono (by decide)) rfl T.g__law_told T.F__law_told.kp (a_cons (e_var (pv 3)) a_nil)) a_nil)) (e_callB (c_repr T.hK hr) rfl T.b_repr boot_repr (a_cons (e_var (pv 1)) a_nil)) (nomark _)) (w_or1 (t_cmp (o_els (o_datN T.hK hr.units) (o_els (o_neO T.hK (hr.mono (by decide)) T.kit T.eqt (T.t_du19__eq__ (G := G)) (T.t_du19__eq__n)) (o_slN T.hK (hr.mono (by decide)) T.kit T.eqt (T.t_du19__eq__ (G := G))))) (e_lc (own := [("_law_fault", 5)]) rfl S.nd (i_el (i_any T.hK (e_var (pv 3))) (i_own T.hK (hr.mono (by decide)) (T.t_it23__iter__ (G := G)) (e_var (pv 3)))) (show BlkOk ["_law_pen_here", "_law_told_here", "_law_some", "_law_channel_here", "_law_other", "_law_fault", "_law_strange", "_law_thing", "_law_found", "_law_due"] (defScope (top 31)) _ [("_law_fault", 5)] from blkOk_by (by decide +kernel)) (gt_name (by decide)) (fun s H C cl fp => (pg_name (i := 5) S.nd rfl (by first | exact .inl rfl | exact .inr rfl))) (fun s H C cl fp tk0 => ts_none) (fun s H C cl fp tk0 => (e_var (pv 5)))) (e_call takes_cx (T.r0__law_faults (G := G)) (hr.mono (by decide)) rfl T.g__law_faults T.F__law_faults.kp (a_cons (e_var (pv 1)) a_nil)) (nomark _))))) (ss_one (s_ret (e_c pe_bl fun _ _ => rfl))) ss_nil)
  (ss_cons (s_if (PW.pt (w_or (t_cmp (o_els (o_datN T.hK hr.units) (o_neO T.hK (hr.mono (by decide)) T.kit T.eqt (T.t_du19__eq__ (G := G)) (T.t_du19__eq__n))) (e_cmp (o_els (o_datE T.hK hr.units) (o_els (o_eqO T.hK (hr.mono (by decide)) T.kit T.eqt (T.t_du19__eq__ (G := G))) (o_eqR T.hK (hr.mono (by decide)) T.eqt (T.t_du19__eq__ (G := G))))) (e_var (pv 3)) (e_var (pv 4)) (nomark _)) (e_cmp (o_els (o_datE T.hK hr.units) (o_els (o_eqO T.hK (hr.mono (by decide)) T.kit T.eqt (T.t_du19__eq__ (G := G))) (o_eqR T.hK (hr.mono (by decide)) T.eqt (T.t_du19__eq__ (G := G))))) (e_var (pv 1)) (e_var (pv 2)) (nomark _)) (nomark _)) (w_or1 (t_cmp (o_els (o_datN T.hK hr.units) (o_neO T.hK (hr.mono (by decide)) T.kit T.eqt (T.t_du19__eq__ (G := G)) (T.t_du19__eq__n))) (e_cmp (o_els (o_datN T.hK hr.units) (o_neO T.hK (hr.mono (by decide)) T.kit T.eqt (T.t_du19__eq__ (G := G)) (T.t_du19__eq__n))) (e_var (pv 3)) (e_var (pv 4)) (nomark _)) (e_cmp (o_els (o_datN T.hK hr.units) (o_neO T.hK (hr.mono (by decide)) T.kit T.eqt (T.t_du19__eq__ (G := G)) (T.t_du19__eq__n))) (e_var (pv 1)) (e_var (pv 2)) (nomark _)) (nomark _))))) (ss_one (s_ret (e_c pe_bl fun _ _ => rfl))) ss_nil)
  (ss_cons (s_set (i := 6) S.nd rfl (by first | exact .inl rfl | exact .inr rfl) (e_lst (a_cons (e_c pe_non fun _ _ => rfl) (a_cons (e_var (pv 1)) (a_cons (e_callTy (c_str T.hK (hr.mono (by decide)) (T.t_du24__str__ (G := G))) rfl T.b_str boot_str (a_cons (e_var (pv 3)) a_nil)) (a_cons (e_ix T.hK (e_var (pv 1)) (e_c pe_int fun _ _ => rfl) (fun _ _ => rfl)) (a_cons (e_call takes_cx (T.r0__law_faults (G := G)) (hr.mono (by decide)) rfl T.g__law_faults T.F__law_faults.kp (a_cons (e_var (pv 1)) a_nil)) (a_cons (e_new0 (fin := frzO) (fun h1 h2 h3 => frz_post h1 h2 (by rw [T.fl_Loses]; rfl) h3) T.hK T.mk0_Loses rfl T.gc_Loses) a_nil))))))))
  (ss_cons (s_if (t_cmp (o_els (o_datN T.hK hr.units) (o_neO T.hK (hr.mono (by decide)) T.kit T.eqt (T.t_du19__eq__ (G := G)) (T.t_du19__eq__n))) (e_lc (own := [("_law_thing", 7)]) rfl S.nd (i_any T.hK (e_var (pv 6))) (show BlkOk ["_law_pen_here", "_law_told_here", "_law_some", "_law_channel_here", "_law_other", "_law_fault", "_law_strange", "_law_thing", "_law_found", "_law_due"] (defScope (top 31)) _ [("_law_thing", 7)] from blkOk_by (by decide +kernel)) (gt_name (by decide)) (fun s H C cl fp => (pg_name (i := 7) S.nd rfl (by first | exact .inl rfl | exact .inr rfl))) (fun s H C cl fp tk0 => (ts_one (t_cmp (o_els (o_datE T.hK hr.units) (o_els (o_eqO T.hK (hr.mono (by decide)) T.kit T.eqt (T.t_du19__eq__ (G := G))) (o_eqR T.hK (hr.mono (by decide)) T.eqt (T.t_du19__eq__ (G := G))))) (e_var (pv 3)) (e_var (pv 7)) (nomark _)))) (fun s H C cl fp tk0 => (e_var (pv 7)))) (e_lst a_nil) (nomark _)) (ss_one (s_ret (e_c pe_bl fun _ _ => rfl))) ss_nil)
  (ss_cons (s_setLc (i := 8) (own := [("_law_fault", 5)]) S.nd rfl rfl (i_any T.hK (e_callTy (c_listO rfl T.hK (hr.mono (by decide)) (T.t_it23__iter__ (G := G)) (T.nl_it23__iter__ (G := G))) rfl T.b_list rfl (a_cons (e_var (pv 3)) a_nil))) (show BlkOk ["_law_pen_here", "_law_told_here", "_law_some", "_law_channel_here", "_law_other", "_law_fault", "_law_strange", "_law_thing", "_law_found", "_law_due"] (defScope (top 31)) _ [("_law_fault", 5)] from blkOk_by (by decide +kernel)) (gt_name (by decide)) (fun s H C cl fp => (pg_name (i := 5) S.nd rfl (by first | exact .inl rfl | exact .inr rfl))) (fun s H C cl fp tk0 => ts_none) (fun s H C cl fp tk0 => (e_callTy (c_str T.hK (hr.mono (by decide)) (T.t_du24__str__ (G := G))) rfl T.b_str boot_str (a_cons (e_var (pv 5)) a_nil))))
  (ss_cons (s_set (i := 9) S.nd rfl (by first | exact .inl rfl | exact .inr rfl) (e_bin (o_add T.hK) (e_bin (o_add T.hK) (e_bin o_repL (e_lst (a_cons (e_c pe_str fun _ _ => rfl) a_nil)) (e_callTy c_int rfl T.b_int PySem.Pv.boot_int (a_cons (e_ix T.hK (e_var (pv 1)) (e_c pe_int fun _ _ => rfl) (fun _ _ => rfl)) a_nil))) (e_bin o_repL (e_lst (a_cons (e_c pe_str fun _ _ => rfl) a_nil)) (e_callTy c_int rfl T.b_int PySem.Pv.boot_int (a_cons (e_ix T.hK (e_var (pv 1)) (e_c pe_int fun _ _ => rfl) (fun _ _ => rfl)) a_nil)))) (e_bin o_repL (e_lst (a_cons (e_bin (o_add T.hK) (e_c pe_str fun _ _ => rfl) (e_callTy (c_str T.hK (hr.mono (by decide)) (T.t_du24__str__ (G := G))) rfl T.b_str boot_str (a_cons (e_ix T.hK (e_var (pv 1)) (e_c pe_int fun _ _ => rfl) (fun _ _ => rfl)) a_nil))) a_nil)) (e_callTy c_int rfl T.b_int PySem.Pv.boot_int (a_cons (e_cmp o_gtI (e_ix T.hK (e_var (pv 1)) (e_c pe_int fun _ _ => rfl) (fun _ _ => rfl)) (e_c pe_int fun _ _ => rfl) (nomark _)) a_nil)))))
  (ss_one (s_ret (e_and T.hK (e_cmp (o_els (o_datE T.hK hr.units) (o_els (o_eqO T.hK (hr.mono (by decide)) T.kit T.eqt (T.t_du19__eq__ (G := G))) (o_eqR T.hK (hr.mono (by decide)) T.eqt (T.t_du19__eq__ (G := G))))) (e_var (pv 8)) (e_var (pv 9)) (nomark _)) (e_one (e_cmp (o_els (o_datE T.hK hr.units) (o_els (o_eqO T.hK (hr.mono (by decide)) T.kit T.eqt (T.t_du19__eq__ (G := G))) (o_eqR T.hK (hr.mono (by decide)) T.eqt (T.t_du19__eq__ (G := G))))) (e_var (pv 3)) (e_call takes_cx (T.r0__law_channel (G := G)) (hr.mono (by decide)) rfl T.g__law_channel T.F__law_channel.kp (a_cons (e_var (pv 1)) a_nil)) (nomark _))))))))))))))
theorem Tp.r0__law_made_right (T : Tp w K mg G.toGb) : FnG P w K mg base (CX P w) 11 T.a__law_made_right (spR G (defM 1 [] v__law_made_right)) :=
  fn_raw (dvs := []) (T.o__law_made_right) (T.F__law_made_right.bindsN fun _ _ _ _ _ _ us hl => match us, hl with | [_], _ => rfl) .nil fun _ _ => rfl
def v__law_refused_right_s0 : SM := (sAsg (eFn (defM 2 [] v__law_pick) (aCons (vget 0) (aCons (eLst (aCons (cst .non) (aCons (cst (.int 0)) (aCons (cst (.int 4)) (aCons (cst (.bl true)) (aCons (cst (.str "1")) (aCons (eUn negW (cst (.int 1))) (aCons (eTup (aCons (cst (.int 1)) aNil)) (aCons (bin powW (cst (.int 10)) (cst (.int 20))) (aCons (eNew0 frzO 5 0) aNil)))))))))) aNil))) (gNm 1))
def v__law_refused_right_s1 : SM := (sAsg (eFn (defM 2 [] v__law_pick) (aCons (vget 0) (aCons (eLst (aCons (cst .non) (aCons (cst (.int 1)) (aCons (cst (.str "loses")) (aCons (eTup (aCons (eNew0 frzO 5 0) aNil)) (aCons (eLst aNil) (aCons eDn (aCons (cst (.bl true)) aNil)))))))) aNil))) (gNm 2))
def v__law_refused_right_s2 : SM := (sAsg (eFn (defM 2 [] v__law_pick) (aCons (vget 0) (aCons (eLst (aCons (eLst (aCons (eNew0 frzO 5 0) (aCons (eNew0 frzO 5 0) aNil))) (aCons (eLst (aCons (eNew0 frzO 6 0) (aCons (eNew0 frzO 6 0) aNil))) (aCons (eLst (aCons (eNew frzO 7 1 (defM 2 [] v_Overtakes___init__) (aCons (cst (.int 1)) aNil)) (aCons (eNew frzO 7 1 (defM 2 [] v_Overtakes___init__) (aCons (cst (.int 2)) aNil)) aNil))) (aCons (eLst (aCons (eNew frzO 7 1 (defM 2 [] v_Overtakes___init__) (aCons (cst (.int 2)) aNil)) (aCons (eNew frzO 7 1 (defM 2 [] v_Overtakes___init__) (aCons (cst (.int 2)) aNil)) aNil))) aNil))))) aNil))) (gNm 3))
def v__law_refused_right_s3 : SM := (sAsg (eTup (aCons (bin addW (cst (.int 1)) (eFn (defM 2 [] v__law_draw) (aCons (vget 0) (aCons (cst (.int 3)) aNil)))) (aCons (eFn (defM 2 [] v__law_draw) (aCons (vget 0) (aCons (cst (.int 2)) aNil))) aNil))) (gTp 2 (gCn (gNm 4) (gCn (gNm 5) gNl))))
def v__law_refused_right_s4 : SM := (sAsg (eLst (aCons (eLam heard__law_heard (eNew frzO 8 2 (defS 2 v_Channel___init__) (aCons (vget 1) (aCons (vget 2) aNil)))) aNil)) (gNm 6))
def v__law_refused_right_s5 : SM := (sDrp (eBM isL appM (vget 6) (aCons (eLam heard__law_heard (eNew frzO 8 2 (defS 2 v_Channel___init__) (aCons (vget 1) (aCons (bin ixW (vget 3) (cst (.int 0))) (aCons (bin ixW (vget 3) (cst (.int 1))) aNil))))) aNil)))
def v__law_refused_right_s6 : SM := (sDrp (eBM isL appM (vget 6) (aCons (eLam heard__law_heard (eNew frzO 8 2 (defS 2 v_Channel___init__) (aCons (vget 4) (aCons (vget 2) aNil)))) aNil)))
def v__law_refused_right_s7 : SM := (sDrp (eBM isL appM (vget 6) (aCons (eLam heard__law_heard (vIf (tB1 (bin (els (datE false) (els (eqO false 9 clsSub du19__eq__) (eqR 9 du19__eq__))) (vget 5) (cst (.int 0)))) (eNew frzO 8 2 (defS 2 v_Channel___init__) (aCons (vget 4) (aCons (eNew0 frzO 5 0) (aCons (vget 2) aNil)))) (eNew frzO 8 2 (defS 2 v_Channel___init__) (aCons (vget 4) (aCons (vget 2) (aCons (eNew0 frzO 5 0) aNil)))))) aNil)))
def v__law_refused_right_s8 : SM := (sDrp (eBM isL appM (vget 6) (aCons (eLam heard__law_heard (eNew frzO 8 2 (defS 2 v_Channel___init__) (aCons (vget 4) (aCons (bin ixW (vget 3) (cst (.int 0))) (aCons (bin ixW (vget 3) (cst (.int 1))) aNil))))) aNil)))
def v__law_refused_right_s9 : SM := (sDrp (eBM isL appM (vget 6) (aCons (eLam heard__law_heard (eNew frzO 8 2 (defS 2 v_Channel___init__) (aCons (vget 4) (aCons (bin ixW (vget 3) (cst (.int 0))) (aCons (vget 2) (aCons (bin ixW (vget 3) (cst (.int 1))) aNil)))))) aNil)))
def v__law_refused_right_s10 : SM := (sIf (tB1 (bin (els (datE true) (eqO true 9 clsSub du19__eq__)) (vget 6) (bin addW (bin repL (eLst (aCons (eTup (aCons (cst (.str "channel")) (aCons (cst (.str "capacity")) aNil))) aNil)) (cst (.int 2))) (bin repL (eLst (aCons (eTup (aCons (cst (.str "channel")) (aCons (cst (.str "faults")) aNil))) aNil)) (cst (.int 4)))))) (sRet (cst (.bl false))) sNop)
def v__law_refused_right_s11 : SM := (sAsg (eFn (defM 2 [] v__law_pick) (aCons (vget 0) (aCons (eLst (aCons (cst .non) (aCons (cst (.int 0)) (aCons (cst (.int 3)) (aCons (cst (.bl true)) (aCons (cst (.str "1")) (aCons (eUn negW (cst (.int 1))) (aCons (eTup (aCons (cst (.int 1)) aNil)) (aCons (bin powW (cst (.int 10)) (cst (.int 20))) (aCons (eLst aNil) aNil)))))))))) aNil))) (gNm 7))
def v__law_refused_right_s12 : SM := (sRet (bin (els (datE false) (els (eqO false 9 clsSub du19__eq__) (eqR 9 du19__eq__))) (eLam heard__law_heard (eNew frzO 7 1 (defM 2 [] v_Overtakes___init__) (aCons (vget 7) aNil))) (eTup (aCons (cst (.str "channel")) (aCons (cst (.str "by")) aNil)))))
def v__law_refused_right : BM := fnM 7 (sSeq v__law_refused_right_s0 (sSeq v__law_refused_right_s1 (sSeq v__law_refused_right_s2 (sSeq v__law_refused_right_s3 (sSeq v__law_refused_right_s4 (sSeq v__law_refused_right_s5 (sSeq v__law_refused_right_s6 (sSeq v__law_refused_right_s7 (sSeq v__law_refused_right_s8 (sSeq v__law_refused_right_s9 (sSeq v__law_refused_right_s10 (sSeq v__law_refused_right_s11 v__law_refused_right_s12))))))))))))
theorem sc__law_refused_right : FnScope ["_law_pen_here", "_law_wrong", "_law_odd", "_law_twice", "_law_one", "_law_many", "_law_heard_here", "_law_strange"] ["_law_pen_here"] (defScope (top 32)) := ⟨rfl, rfl, rfl, by decide +kernel, rfl, by decide +kernel, by decide +kernel⟩
theorem Tp.o__law_refused_right (T : Tp w K mg G.toGb) (TL : Tl T base G.T) : FnO P w K mg base (CX P w) 13 T.a__law_refused_right T.fd__law_refused_right ["_law_pen_here"] (spN G 1 v__law_refused_right) :=
  fn_upC T.C__law_refused_right sc__law_refused_right rfl fun A outer s H E hr =>
    have S := sc__law_refused_right
    (ss_cons (s_set (i := 1) S.nd rfl (by first | exact .inl rfl | exact .inr rfl) (e_call takes_cx (T.r0__law_pick (G := G)) (hr.mono (by decide)) rfl T.g__law_pick T.F__law_pick.kp (a_cons (e_var (pv 0)) (a_cons (e_lst (a_cons (e_c pe_non fun _ _ => rfl) (a_cons (e_c pe_int fun _ _ => rfl) (a_cons (e_c pe_int fun _ _ => rfl) (a_cons (e_c pe_bl fun _ _ => rfl) (a_cons (e_c pe_str fun _ _ => rfl) (a_cons (e_neg (e_c pe_int fun _ _ => rfl)) (a_cons (e_tup (a_cons (e_c pe_int fun _ _ => rfl) a_nil)) (a_cons (e_bin o_pow (e_c pe_int fun _ _ => rfl) (e_c pe_int fun _ _ => rfl)) (a_cons (e_new0 (fin := frzO) (fun h1 h2 h3 => frz_post h1 h2 (by rw [T.fl_Loses]; rfl) h3) T.hK T.mk0_Loses rfl T.gc_Loses) a_nil)))))))))) a_nil))))
  (ss_cons (s_set (i := 2) S.nd rfl (by first | exact .inl rfl | exact .inr rfl) (e_call takes_cx (T.r0__law_pick (G := G)) (hr.mono (by decide)) rfl T.g__law_pick T.F__law_pick.kp (a_cons (e_var (pv 0)) (a_cons (e_lst (a_cons (e_c pe_non fun _ _ => rfl) (a_cons (e_c pe_int fun _ _ => rfl) (a_cons (e_c pe_str fun _ _ => rfl) (a_cons (e_tup (a_cons (e_new0 (fin := frzO) (fun h1 h2 h3 => frz_post h1 h2 (by rw [T.fl_Loses]; rfl) h3) T.hK T.mk0_Loses rfl T.gc_Loses) a_nil)) (a_cons (e_lst a_nil) (a_cons e_dn (a_cons (e_c pe_bl fun _ _ => rfl) a_nil)))))))) a_nil))))
  (ss_cons (s_set (i := 3) S.nd rfl (by first | exact .inl rfl | exact .inr rfl) (e_call takes_cx (T.r0__law_pick (G := G)) (hr.mono (by decide)) rfl T.g__law_pick T.F__law_pick.kp (a_cons (e_var (pv 0)) (a_cons (e_lst (a_cons (e_lst (a_cons (e_new0 (fin := frzO) (fun h1 h2 h3 => frz_post h1 h2 (by rw [T.fl_Loses]; rfl) h3) T.hK T.mk0_Loses rfl T.gc_Loses) (a_cons (e_new0 (fin := frzO) (fun h1 h2 h3 => frz_post h1 h2 (by rw [T.fl_Loses]; rfl) h3) T.hK T.mk0_Loses rfl T.gc_Loses) a_nil))) (a_cons (e_lst (a_cons (e_new0 (fin := frzO) (fun h1 h2 h3 => frz_post h1 h2 (by rw [T.fl_Doubles]; rfl) h3) T.hK T.mk0_Doubles rfl T.gc_Doubles) (a_cons (e_new0 (fin := frzO) (fun h1 h2 h3 => frz_post h1 h2 (by rw [T.fl_Doubles]; rfl) h3) T.hK T.mk0_Doubles rfl T.gc_Doubles) a_nil))) (a_cons (e_lst (a_cons (e_new (fin := frzO) (fun h1 h2 h3 => frz_post h1 h2 (by rw [T.fl_Overtakes]; rfl) h3) takes_cx T.hK T.mk_Overtakes (T.r0_Overtakes___init__ (G := G)) (hr.mono (by decide)) rfl T.gc_Overtakes (a_cons (e_c pe_int fun _ _ => rfl) a_nil)) (a_cons (e_new (fin := frzO) (fun h1 h2 h3 => frz_post h1 h2 (by rw [T.fl_Overtakes]; rfl) h3) takes_cx T.hK T.mk_Overtakes (T.r0_Overtakes___init__ (G := G)) (hr.mono (by decide)) rfl T.gc_Overtakes (a_cons (e_c pe_int fun _ _ => rfl) a_nil)) a_nil))) (a_cons (e_lst (a_cons (e_new (fin := frzO) (fun h1 h2 h3 => frz_post h1 h2 (by rw [T.fl_Overtakes]; rfl) h3) takes_cx T.hK T.mk_Overtakes (T.r0_Overtakes___init__ (G := G)) (hr.mono (by decide)) rfl T.gc_Overtakes (a_cons (e_c pe_int fun _ _ => rfl) a_nil)) (a_cons (e_new (fin := frzO) (fun h1 h2 h3 => frz_post h1 h2 (by rw [T.fl_Overtakes]; rfl) h3) takes_cx T.hK T.mk_Overtakes (T.r0_Overtakes___init__ (G := G)) (hr.mono (by decide)) rfl T.gc_Overtakes (a_cons (e_c pe_int fun _ _ => rfl) a_nil)) a_nil))) a_nil))))) a_nil))))
  (ss_cons (s_asg (e_tup (a_cons (e_bin (o_add T.hK) (e_c pe_int fun _ _ => rfl) (e_call takes_cx (T.r0__law_draw (G := G)) (hr.mono (by decide)) rfl T.g__law_draw T.F__law_draw.kp (a_cons (e_var (pv 0)) (a_cons (e_c pe_int fun _ _ => rfl) a_nil)))) (a_cons (e_call takes_cx (T.r0__law_draw (G := G)) (hr.mono (by decide)) rfl T.g__law_draw T.F__law_draw.kp (a_cons (e_var (pv 0)) (a_cons (e_c pe_int fun _ _ => rfl) a_nil))) a_nil))) (g_tup T.hK rfl (gs_cons (g_name (i := 4) (pg_name S.nd rfl (by first | exact .inl rfl | exact .inr rfl))) (gs_cons (g_name (i := 5) (pg_name S.nd rfl (by first | exact .inl rfl | exact .inr rfl))) gs_nil))))
  (ss_cons (s_set (i := 6) S.nd rfl (by first | exact .inl rfl | exact .inr rfl) (e_lst (a_cons (e_lam (k := 10) (m := 3) (a := "_law_ask") takes_cx T.F__law_heard rfl T.g__law_heard sc__law_heard rfl rfl (.inl rfl) (fun _ _ _ _ _ _ us hl => match us, hl with | [_], _ => rfl) conv__law_heard (fun cdv f fm s H E G1 e1 hr1 ask => hb_ok__law_heard T e1 (hr1.mono (by decide)) ask) TL.tb__law_refused_right rfl TL.hm__law_refused_right TL.hu__law_refused_right (hr.mono (by decide)) (show LamX.LamS (defScope (top 32)) _ from LamX.lamS_by (by decide +kernel)) rfl (fun _ _ _ _ _ => rfl) (fun A outer s H E f c' hrl => (e_new (fin := frzO) (fun h1 h2 h3 => frz_post h1 h2 (by rw [T.fl_Channel]; rfl) h3) takes_lam T.hK T.mk_Channel (T.r0_Channel___init__ (G := G)) (hrl.mono (by decide)) rfl T.gc_Channel (a_cons (e_var (pv 1)) (a_cons (e_var (pv 2)) a_nil))))) a_nil)))
  (ss_cons (s_expr (e_bmL (pe_bm PySem.F.plainAttrs_list PySem.F.slot_list_append PySem.F.type_list_append m_append (e_var (pv 6)) (a_cons (e_lam (k := 10) (m := 3) (a := "_law_ask") takes_cx T.F__law_heard rfl T.g__law_heard sc__law_heard rfl rfl (.inl rfl) (fun _ _ _ _ _ _ us hl => match us, hl with | [_], _ => rfl) conv__law_heard (fun cdv f fm s H E G1 e1 hr1 ask => hb_ok__law_heard T e1 (hr1.mono (by decide)) ask) TL.tb__law_refused_right rfl TL.hm__law_refused_right TL.hu__law_refused_right (hr.mono (by decide)) (show LamX.LamS (defScope (top 32)) _ from LamX.lamS_by (by decide +kernel)) rfl (fun _ _ _ _ _ => rfl) (fun A outer s H E f c' hrl => (e_new (fin := frzO) (fun h1 h2 h3 => frz_post h1 h2 (by rw [T.fl_Channel]; rfl) h3) takes_lam T.hK T.mk_Channel (T.r0_Channel___init__ (G := G)) (hrl.mono (by decide)) rfl T.gc_Channel (a_cons (e_var (pv 1)) (a_cons (e_ix T.hK (e_var (pv 3)) (e_c pe_int fun _ _ => rfl) (fun _ _ => rfl)) (a_cons (e_ix T.hK (e_var (pv 3)) (e_c pe_int fun _ _ => rfl) (fun _ _ => rfl)) a_nil)))))) a_nil))))
  (ss_cons (s_expr (e_bmL (pe_bm PySem.F.plainAttrs_list PySem.F.slot_list_append PySem.F.type_list_append m_append (e_var (pv 6)) (a_cons (e_lam (k := 10) (m := 3) (a := "_law_ask") takes_cx T.F__law_heard rfl T.g__law_heard sc__law_heard rfl rfl (.inl rfl) (fun _ _ _ _ _ _ us hl => match us, hl with | [_], _ => rfl) conv__law_heard (fun cdv f fm s H E G1 e1 hr1 ask => hb_ok__law_heard T e1 (hr1.mono (by decide)) ask) TL.tb__law_refused_right rfl TL.hm__law_refused_right TL.hu__law_refused_right (hr.mono (by decide)) (show LamX.LamS (defScope (top 32)) _ from LamX.lamS_by (by decide +kernel)) rfl (fun _ _ _ _ _ => rfl) (fun A outer s H E f c' hrl => (e_new (fin := frzO) (fun h1 h2 h3 => frz_post h1 h2 (by rw [T.fl_Channel]; rfl) h3) takes_lam T.hK T.mk_Channel (T.r0_Channel___init__ (G := G)) (hrl.mono (by decide)) rfl T.gc_Channel (a_cons (e_var (pv 4)) (a_cons (e_var (pv 2)) a_nil))))) a_nil))))
  (ss_cons (s_expr (e_bmL (pe_bm PySem.F.plainAttrs_list PySem.F.slot_list_append PySem.F.type_list_append m_append (e_var (pv 6)) (a_cons (e_lam (k := 10) (m := 3) (a := "_law_ask") takes_cx T.F__law_heard rfl T.g__law_heard sc__law_heard rfl rfl (.inl rfl) (fun _ _ _ _ _ _ us hl => match us, hl with | [_], _ => rfl) conv__law_heard (fun cdv f fm s H E G1 e1 hr1 ask => hb_ok__law_heard T e1 (hr1.mono (by decide)) ask) TL.tb__law_refused_right rfl TL.hm__law_refused_right TL.hu__law_refused_right (hr.mono (by decide)) (show LamX.LamS (defScope (top 32)) _ from LamX.lamS_by (by decide +kernel)) rfl (fun _ _ _ _ _ => rfl) (fun A outer s H E f c' hrl => (e_if (t_cmp (o_els (o_datE T.hK hrl.units) (o_els (o_eqO T.hK (hrl.mono (by decide)) T.kit T.eqt (T.t_du19__eq__ (G := G))) (o_eqR T.hK (hrl.mono (by decide)) T.eqt (T.t_du19__eq__ (G := G))))) (e_var (pv 5)) (e_c pe_int fun _ _ => rfl) (nomark _)) (e_new (fin := frzO) (fun h1 h2 h3 => frz_post h1 h2 (by rw [T.fl_Channel]; rfl) h3) takes_lam T.hK T.mk_Channel (T.r0_Channel___init__ (G := G)) (hrl.mono (by decide)) rfl T.gc_Channel (a_cons (e_var (pv 4)) (a_cons (e_new0 (fin := frzO) (fun h1 h2 h3 => frz_post h1 h2 (by rw [T.fl_Loses]; rfl) h3) T.hK T.mk0_Loses rfl T.gc_Loses) (a_cons (e_var (pv 2)) a_nil)))) (e_new (fin := frzO) (fun h1 h2 h3 => frz_post h1 h2 (by rw [T.fl_Channel]; rfl) h3) takes_lam T.hK T.mk_Channel (T.r0_Channel___init__ (G := G)) (hrl.mono (by decide)) rfl T.gc_Channel (a_cons (e_var (pv 4)) (a_cons (e_var (pv 2)) (a_cons (e_new0 (fin := frzO) (fun h1 h2 h3 => frz_post h1 h2 (by rw [T.fl_Loses]; rfl) h3) T.hK T.mk0_Loses rfl T.gc_Loses) a_nil))))))) a_nil))))
  (ss_cons (s_expr (e_bmL (pe_bm PySem.F.plainAttrs_list PySem.F.slot_list_append PySem.F.type_list_append m_append (e_var (pv 6)) (a_cons (e_lam (k := 10) (m := 3) (a := "_law_ask") takes_cx T.F__law_heard rfl T.g__law_heard sc__law_heard rfl rfl (.inl rfl) (fun _ _ _ _ _ _ us hl => match us, hl with | [_], _ => rfl) conv__law_heard (fun cdv f fm s H E G1 e1 hr1 ask => hb_ok__law_heard T e1 (hr1.mono (by decide)) ask) TL.tb__law_refused_right rfl TL.hm__law_refused_right TL.hu__law_refused_right (hr.mono (by decide)) (show LamX.LamS (defScope (top 32)) _ from LamX.lamS_by (by decide +kernel)) rfl (fun _ _ _ _ _ => rfl) (fun A outer s H E f c' hrl => (e_new (fin := frzO) (fun h1 h2 h3 => frz_post h1 h2 (by rw [T.fl_Channel]; rfl) h3) takes_lam T.hK T.mk_Channel (T.r0_Channel___init__ (G := G)) (hrl.mono (by decide)) rfl T.gc_Channel (a_cons (e_var (pv 4)) (a_cons (e_ix T.hK (e_var (pv 3)) (e_c pe_int fun _ _ => rfl) (fun _ _ => rfl)) (a_cons (e_ix T.hK (e_var (pv 3)) (e_c pe_int fun _ _ => rfl) (fun _ _ => rfl)) a_nil)))))) a_nil))))
  (ss_cons (s_expr (e_bmL (pe_bm PySem.F.plainAttrs_list PySem.F.slot_list_append PySem.F.type_list_append m_append (e_var (pv 6)) (a_cons (e_lam (k := 10) (m := 3) (a := "_law_ask") takes_cx T.F__law_heard rfl T.g__law_heard sc__law_heard rfl rfl (.inl rfl) (fun _ _ _ _ _ _ us hl => match us, hl with | [_], _ => rfl) conv__law_heard (fun cdv f fm s H E G1 e1 hr1 ask => hb_ok__law_heard T e1 (hr1.mono (by decide)) ask) TL.tb__law_refused_right rfl TL.hm__law_refused_right TL.hu__law_refused_right (hr.mono (by decide)) (show LamX.LamS (defScope (top 32)) _ from LamX.lamS_by (by decide +kernel)) rfl (fun _ _ _ _ _ => rfl) (fun A outer s H E f c' hrl => (e_new (fin := frzO) (fun h1 h2 h3 => frz_post h1 h2 (by rw [T.fl_Channel]; rfl) h3) takes_lam T.hK T.mk_Channel (T.r0_Channel___init__ (G := G)) (hrl.mono (by decide)) rfl T.gc_Channel (a_cons (e_var (pv 4)) (a_cons (e_ix T.hK (e_var (pv 3)) (e_c pe_int fun _ _ => rfl) (fun _ _ => rfl)) (a_cons (e_var (pv 2)) (a_cons (e_ix T.hK (e_var (pv 3)) (e_c pe_int fun _ _ => rfl) (fun _ _ => rfl)) a_nil))))))) a_nil))))
  (ss_cons (s_if (t_cmp (o_els (o_datN T.hK hr.units) (o_neO T.hK (hr.mono (by decide)) T.kit T.eqt (T.t_du19__eq__ (G := G)) (T.t_du19__eq__n))) (e_var (pv 6)) (e_bin (o_add T.hK) (e_bin o_repL (e_lst (a_cons (e_tup (a_cons (e_c pe_str fun _ _ => rfl) (a_cons (e_c pe_str fun _ _ => rfl) a_nil))) a_nil)) (e_c pe_int fun _ _ => rfl)) (e_bin o_repL (e_lst (a_cons (e_tup (a_cons (e_c pe_str fun _ _ => rfl) (a_cons (e_c pe_str fun _ _ => rfl) a_nil))) a_nil)) (e_c pe_int fun _ _ => rfl))) (nomark _)) (ss_one (s_ret (e_c pe_bl fun _ _ => rfl))) ss_nil)
  (ss_cons (s_set (i := 7) S.nd rfl (by first | exact .inl rfl | exact .inr rfl) (e_call takes_cx (T.r0__law_pick (G := G)) (hr.mono (by decide)) rfl T.g__law_pick T.F__law_pick.kp (a_cons (e_var (pv 0)) (a_cons (e_lst (a_cons (e_c pe_non fun _ _ => rfl) (a_cons (e_c pe_int fun _ _ => rfl) (a_cons (e_c pe_int fun _ _ => rfl) (a_cons (e_c pe_bl fun _ _ => rfl) (a_cons (e_c pe_str fun _ _ => rfl) (a_cons (e_neg (e_c pe_int fun _ _ => rfl)) (a_cons (e_tup (a_cons (e_c pe_int fun _ _ => rfl) a_nil)) (a_cons (e_bin o_pow (e_c pe_int fun _ _ => rfl) (e_c pe_int fun _ _ => rfl)) (a_cons (e_lst a_nil) a_nil)))))))))) a_nil))))
  (ss_one (s_ret (e_cmp (o_els (o_datE T.hK hr.units) (o_els (o_eqO T.hK (hr.mono (by decide)) T.kit T.eqt (T.t_du19__eq__ (G := G))) (o_eqR T.hK (hr.mono (by decide)) T.eqt (T.t_du19__eq__ (G := G))))) (e_lam (k := 5) (m := 3) (a := "_law_ask") takes_cx T.F__law_heard rfl T.g__law_heard sc__law_heard rfl rfl (.inl rfl) (fun _ _ _ _ _ _ us hl => match us, hl with | [_], _ => rfl) conv__law_heard (fun cdv f fm s H E G1 e1 hr1 ask => hb_ok__law_heard T e1 (hr1.mono (by decide)) ask) TL.tb__law_refused_right rfl TL.hm__law_refused_right TL.hu__law_refused_right (hr.mono (by decide)) (show LamX.LamS (defScope (top 32)) _ from LamX.lamS_by (by decide +kernel)) rfl (fun _ _ _ _ _ => rfl) (fun A outer s H E f c' hrl => (e_new (fin := frzO) (fun h1 h2 h3 => frz_post h1 h2 (by rw [T.fl_Overtakes]; rfl) h3) takes_lam T.hK T.mk_Overtakes (T.r0_Overtakes___init__ (G := G)) (hrl.mono (by decide)) rfl T.gc_Overtakes (a_cons (e_var (pv 7)) a_nil)))) (e_tup (a_cons (e_c pe_str fun _ _ => rfl) (a_cons (e_c pe_str fun _ _ => rfl) a_nil))) (nomark _))))))))))))))))
theorem Tp.r0__law_refused_right (T : Tp w K mg G.toGb) (TL : Tl T base G.T) : FnG P w K mg base (CX P w) 13 T.a__law_refused_right (spR G (defM 1 [] v__law_refused_right)) :=
  fn_raw (dvs := []) (T.o__law_refused_right TL) (T.F__law_refused_right.bindsN fun _ _ _ _ _ _ us hl => match us, hl with | [_], _ => rfl) .nil fun _ _ => rfl
theorem Tp.kw0 (T : Tp w K mg G.toGb) : KAt K T.fd_Overtakes___init__ ["self", "by"] 1 ["by"] [0, 1] [] := kat_none T.F_Overtakes___init__ 1 ["by"] [0, 1] fun _ _ _ _ _ _ us ws h1 h3 => match us, ws, h1, h3 with | [_], [_], _, _ => rfl
theorem Tp.kwR_Channel (T : Tp w K mg G.toGb) : FnKw P w K mg base (CX P w) 8 T.a_Channel___init__ 1 ["capacity"] G (fun zs => v_Channel___init__ (zs ++ [.tup []])) :=
  fn_starKw (m := 0) (ps := ["self", "capacity"]) (pv := "faults") T.F_Channel___init__ sc_Channel___init__ rfl rfl (fun _ _ _ _ _ _ us ws h1 h2 => match us, ws, h1, h2 with | [_], [_], _, _ => rfl) fun cdv A outer s H E hr =>
    have S := sc_Channel___init__
    (ss_cons (s_if (t_not (t_val T.hK (e_call takes_cx (T.r0_is_within (G := G)) (hr.mono (by decide)) rfl T.g_is_within T.F_is_within.kp (a_cons (e_var (pv 1)) (a_cons (e_c pe_int fun _ _ => rfl) (a_cons (e_cv T.hK T.cr_Channel T.cv_Channel_MOST (fun _ _ => rfl) (e_glo rfl T.gg_Channel)) a_nil)))))) (ss_one (s_raise (fl := ["part"]) takes_cx T.hK T.ex_BadChannel rfl (by decide) (by decide) T.ei_BadChannel T.et_BadChannel (T.xi_BadChannel) (hr.mono (by decide)) T.xb_BadChannel rfl T.gc_BadChannel (a_cons (e_c pe_str fun _ _ => rfl) a_nil))) ss_nil)
  (ss_cons (s_fld T.hK T.t_st13_capacity (e_var (pv 0)) (e_var (pv 1)))
  (ss_one (s_fld T.hK T.t_st14_faults (e_var (pv 0)) (e_call takes_cx (T.r0_told_faults (G := G)) (hr.mono (by decide)) rfl T.g_told_faults T.F_told_faults.kp (a_cons (e_var (pv 2)) a_nil))))))
def v_law_s0 (sa : Addr) (sn : List Int) : SM := (sAsg (eFn (defM 1 [] (v__law_pen sa sn)) (aCons (vget 0) aNil)) (gNm 1))
def v_law_s1 (sa : Addr) (sn : List Int) : SM := (sFor (iRg rg1 (aCons (cst (.int 8)) aNil)) (gNm 2) (sIf (mOr (mNot (tst (eFn (defM 1 [] v__law_made_right) (aCons (vget 1) aNil)))) (mNot (tst (eFn (defM 1 [] v__law_refused_right) (aCons (vget 1) aNil))))) (sRet (cst (.bl false))) sNop))
def v_law_s2 (sa : Addr) (sn : List Int) : SM := (sAsg (eLst (aCons (eNew0 frzO 5 0) (aCons (eNew0 frzO 6 0) (aCons (eNew frzO 7 1 (defM 2 [] v_Overtakes___init__) (aCons (cst (.int 1)) aNil)) (aCons (eNewK frzO 7 1 0 1 [0, 1] [] v_Overtakes___init__ aNil (aCons (cst (.int 2)) aNil)) aNil))))) (gNm 3))
def v_law_s3 (sa : Addr) (sn : List Int) : SM := (sIf (tB1 (bin (els (datE true) (eqO true 9 clsSub du19__eq__)) (eLc (iAny (vget 3)) (cN 4) tTrue (eLc (iAny (vget 3)) (cN 5) tTrue (bin (els (datE false) (els (eqO false 9 clsSub du19__eq__) (eqR 9 du19__eq__))) (vget 4) (vget 5)) [5]) [4]) (eLc (iRg rg1 (aCons (cst (.int 4)) aNil)) (cN 6) tTrue (eLc (iRg rg1 (aCons (cst (.int 4)) aNil)) (cN 7) tTrue (bin (els (datE false) (els (eqO false 9 clsSub du19__eq__) (eqR 9 du19__eq__))) (vget 6) (vget 7)) [7]) [6]))) (sRet (cst (.bl false))) sNop)
def v_law_s4 (sa : Addr) (sn : List Int) : SM := (sIf (mOr (tB1 (bin (els (datE true) (eqO true 9 clsSub du19__eq__)) (eLc (iAny (vget 3)) (cN 8) tTrue (eCall (isiA 9 clsX clsSub) (aCons (vget 8) (aCons (cst (.glo 4)) aNil))) [8]) (bin repL (eLst (aCons (cst (.bl true)) aNil)) (cst (.int 4))))) (mOr (tB1 (bin (els (datE false) (els (eqO false 9 clsSub du19__eq__) (eqR 9 du19__eq__))) (eNew0 frzO 5 0) (cst (.str "loses")))) (tB1 (bin (els (datE true) (eqO true 9 clsSub du19__eq__)) (eAx at10_by at10_byx (bin ixW (vget 3) (cst (.int 3)))) (cst (.int 2)))))) (sRet (cst (.bl false))) sNop)
def v_law_s5 (sa : Addr) (sn : List Int) : SM := (sRet (vAnd (bin (els (datE false) (els (eqO false 9 clsSub du19__eq__) (eqR 9 du19__eq__))) (eCv 8 (W.int (3)) (cst (.glo 8))) (cst (.int 3))) (vAnd (bin (els (datE false) (els (eqO false 9 clsSub du19__eq__) (eqR 9 du19__eq__))) (eNewR frzO 8 2 1 (fun zs => v_Channel___init__ (zs ++ [.tup []])) (aCons (cst (.int 2)) aNil)) (eNew frzO 8 2 (defS 2 v_Channel___init__) (aCons (cst (.int 2)) aNil))) (bin (els (datE false) (els (eqO false 9 clsSub du19__eq__) (eqR 9 du19__eq__))) (eSl (eLc (iAny (vget 3)) (cN 8) tTrue (eCall (b1 (strW du24__str__)) (aCons (vget 8) aNil)) [8]) (oSome (cst (.int 2))) oNone) (eLst (aCons (cst (.str "overtakes 1")) (aCons (cst (.str "overtakes 2")) aNil)))))))
def v_law (sa : Addr) (sn : List Int) : BM := fnM 8 (sSeq (v_law_s0 sa sn) (sSeq (v_law_s1 sa sn) (sSeq (v_law_s2 sa sn) (sSeq (v_law_s3 sa sn) (sSeq (v_law_s4 sa sn) (v_law_s5 sa sn))))))
theorem sc_law : FnScope ["_law_script", "_law_pen_here", "_law_turn", "_law_some", "_law_one", "_law_other", "_law_at", "_law_spot", "_law_fault"] ["_law_script"] (defScope (top 33)) := ⟨rfl, rfl, rfl, by decide +kernel, rfl, by decide +kernel, by decide +kernel⟩
theorem Tp.o_law (T : Tp w K mg G.toGb) (TL : Tl T base G.T) {sa : Addr} {sn : List Int} (SC : ScOk G sa sn) : FnO P w K mg base (CX P w) 14 T.a_law T.fd_law ["_law_script"] (spN G 1 (v_law sa sn)) :=
  fn_up T.F_law sc_law rfl fun cdv A outer s H E hr =>
    have S := sc_law
    (ss_cons (s_set (i := 1) S.nd rfl (by first | exact .inl rfl | exact .inr rfl) (e_call takes_cx (T.r0__law_pen (G := G) SC) (hr.mono (by decide)) rfl T.g__law_pen T.F__law_pen.kp (a_cons (e_var (pv 0)) a_nil)))
  (ss_cons (s_for passes_cx rfl (i_rg1 rfl T.b_range (a_cons (e_c pe_int fun _ _ => rfl) a_nil)) (g_name (i := 2) (pg_name S.nd rfl (by first | exact .inl rfl | exact .inr rfl))) (ss_one (s_if (PW.pt (w_or (t_not (t_val T.hK (e_call takes_cx (T.r0__law_made_right (G := G)) (hr.mono (by decide)) rfl T.g__law_made_right T.F__law_made_right.kp (a_cons (e_var (pv 1)) a_nil)))) (w_or1 (t_not (t_val T.hK (e_call takes_cx (T.r0__law_refused_right (G := G) TL) (hr.mono (by decide)) rfl T.g__law_refused_right T.F__law_refused_right.kp (a_cons (e_var (pv 1)) a_nil))))))) (ss_one (s_ret (e_c pe_bl fun _ _ => rfl))) ss_nil)))
  (ss_cons (s_set (i := 3) S.nd rfl (by first | exact .inl rfl | exact .inr rfl) (e_lst (a_cons (e_new0 (fin := frzO) (fun h1 h2 h3 => frz_post h1 h2 (by rw [T.fl_Loses]; rfl) h3) T.hK T.mk0_Loses rfl T.gc_Loses) (a_cons (e_new0 (fin := frzO) (fun h1 h2 h3 => frz_post h1 h2 (by rw [T.fl_Doubles]; rfl) h3) T.hK T.mk0_Doubles rfl T.gc_Doubles) (a_cons (e_new (fin := frzO) (fun h1 h2 h3 => frz_post h1 h2 (by rw [T.fl_Overtakes]; rfl) h3) takes_cx T.hK T.mk_Overtakes (T.r0_Overtakes___init__ (G := G)) (hr.mono (by decide)) rfl T.gc_Overtakes (a_cons (e_c pe_int fun _ _ => rfl) a_nil)) (a_cons (e_newK0 (fin := frzO) (ds := []) (N := 2) (fun h1 h2 h3 => frz_post h1 h2 (by rw [T.fl_Overtakes]; rfl) h3) (fun _ _ => rfl) rfl (by decide) takes_cx T.hK T.mk_Overtakes (T.o_Overtakes___init__ (G := G)) (hr.mono (by decide)) (T.kw0 (G := G)) rfl T.gc_Overtakes (k_cons (e_c pe_int fun _ _ => rfl) k_nil)) a_nil))))))
  (ss_cons (s_if (t_cmp (o_els (o_datN T.hK hr.units) (o_neO T.hK (hr.mono (by decide)) T.kit T.eqt (T.t_du19__eq__ (G := G)) (T.t_du19__eq__n))) (e_lc (own := [("_law_one", 4)]) rfl S.nd (i_any T.hK (e_var (pv 3))) (show BlkOk ["_law_script", "_law_pen_here", "_law_turn", "_law_some", "_law_one", "_law_other", "_law_at", "_law_spot", "_law_fault"] (defScope (top 33)) _ [("_law_one", 4)] from blkOk_by (by decide +kernel)) (gt_name (by decide)) (fun s H C cl fp => (pg_name (i := 4) S.nd rfl (by first | exact .inl rfl | exact .inr rfl))) (fun s H C cl fp tk0 => ts_none) (fun s H C cl fp tk0 => (e_lc (own := [("_law_other", 5)]) rfl S.nd (i_any T.hK (e_var (pv 3))) (show BlkOk ["_law_script", "_law_pen_here", "_law_turn", "_law_some", "_law_one", "_law_other", "_law_at", "_law_spot", "_law_fault"] ({ kind := ScopeKind.function, names := [((".0" : Str), NameKind.local), (("_law_one" : Str), NameKind.cell), (("_law_some" : Str), NameKind.cell)], isGenerator := false, isCoroutine := false } : Scope) _ [("_law_other", 5)] from blkOk_by (by decide +kernel)) (gt_name (by decide)) (fun s H C cl fp => (pg_name (i := 5) S.nd rfl (by first | exact .inl rfl | exact .inr rfl))) (fun s H C cl fp tk0 => ts_none) (fun s H C cl fp tk0 => (e_cmp (o_els (o_datE T.hK hr.units) (o_els (o_eqO T.hK (hr.mono (by decide)) T.kit T.eqt (T.t_du19__eq__ (G := G))) (o_eqR T.hK (hr.mono (by decide)) T.eqt (T.t_du19__eq__ (G := G))))) (e_var (pv 4)) (e_var (pv 5)) (nomark _)))))) (e_lc (own := [("_law_at", 6)]) rfl S.nd (i_rg1 rfl T.b_range (a_cons (e_c pe_int fun _ _ => rfl) a_nil)) (show BlkOk ["_law_script", "_law_pen_here", "_law_turn", "_law_some", "_law_one", "_law_other", "_law_at", "_law_spot", "_law_fault"] (defScope (top 33)) _ [("_law_at", 6)] from blkOk_by (by decide +kernel)) (gt_name (by decide)) (fun s H C cl fp => (pg_name (i := 6) S.nd rfl (by first | exact .inl rfl | exact .inr rfl))) (fun s H C cl fp tk0 => ts_none) (fun s H C cl fp tk0 => (e_lc (own := [("_law_spot", 7)]) rfl S.nd (i_rg1 rfl T.b_range (a_cons (e_c pe_int fun _ _ => rfl) a_nil)) (show BlkOk ["_law_script", "_law_pen_here", "_law_turn", "_law_some", "_law_one", "_law_other", "_law_at", "_law_spot", "_law_fault"] ({ kind := ScopeKind.function, names := [((".0" : Str), NameKind.local), (("_law_at" : Str), NameKind.cell), (("range" : Str), NameKind.globalImplicit)], isGenerator := false, isCoroutine := false } : Scope) _ [("_law_spot", 7)] from blkOk_by (by decide +kernel)) (gt_name (by decide)) (fun s H C cl fp => (pg_name (i := 7) S.nd rfl (by first | exact .inl rfl | exact .inr rfl))) (fun s H C cl fp tk0 => ts_none) (fun s H C cl fp tk0 => (e_cmp (o_els (o_datE T.hK hr.units) (o_els (o_eqO T.hK (hr.mono (by decide)) T.kit T.eqt (T.t_du19__eq__ (G := G))) (o_eqR T.hK (hr.mono (by decide)) T.eqt (T.t_du19__eq__ (G := G))))) (e_var (pv 6)) (e_var (pv 7)) (nomark _)))))) (nomark _)) (ss_one (s_ret (e_c pe_bl fun _ _ => rfl))) ss_nil)
  (ss_cons (s_if (PW.pt (w_or (t_cmp (o_els (o_datN T.hK hr.units) (o_neO T.hK (hr.mono (by decide)) T.kit T.eqt (T.t_du19__eq__ (G := G)) (T.t_du19__eq__n))) (e_lc (own := [("_law_fault", 8)]) rfl S.nd (i_any T.hK (e_var (pv 3))) (show BlkOk ["_law_script", "_law_pen_here", "_law_turn", "_law_some", "_law_one", "_law_other", "_law_at", "_law_spot", "_law_fault"] (defScope (top 33)) _ [("_law_fault", 8)] from blkOk_by (by decide +kernel)) (gt_name (by decide)) (fun s H C cl fp => (pg_name (i := 8) S.nd rfl (by first | exact .inl rfl | exact .inr rfl))) (fun s H C cl fp tk0 => ts_none) (fun s H C cl fp tk0 => (e_callB (c_isiA T.hK T.kit T.xcf) rfl T.b_isinstance boot_isinstance (a_cons (e_var (pv 8)) (a_cons (e_glo rfl T.gg_Fault) a_nil))))) (e_bin o_repL (e_lst (a_cons (e_c pe_bl fun _ _ => rfl) a_nil)) (e_c pe_int fun _ _ => rfl)) (nomark _)) (w_or (t_cmp (o_els (o_datE T.hK hr.units) (o_els (o_eqO T.hK (hr.mono (by decide)) T.kit T.eqt (T.t_du19__eq__ (G := G))) (o_eqR T.hK (hr.mono (by decide)) T.eqt (T.t_du19__eq__ (G := G))))) (e_new0 (fin := frzO) (fun h1 h2 h3 => frz_post h1 h2 (by rw [T.fl_Loses]; rfl) h3) T.hK T.mk0_Loses rfl T.gc_Loses) (e_c pe_str fun _ _ => rfl) (nomark _)) (w_or1 (t_cmp (o_els (o_datN T.hK hr.units) (o_neO T.hK (hr.mono (by decide)) T.kit T.eqt (T.t_du19__eq__ (G := G)) (T.t_du19__eq__n))) (e_ax takes_cx T.hK (hr.mono (by decide)) (T.t_at10_by (G := G)) (T.t_at10_byx (G := G)) (e_ix T.hK (e_var (pv 3)) (e_c pe_int fun _ _ => rfl) (fun _ _ => rfl))) (e_c pe_int fun _ _ => rfl) (nomark _)))))) (ss_one (s_ret (e_c pe_bl fun _ _ => rfl))) ss_nil)
  (ss_one (s_ret (e_and T.hK (e_cmp (o_els (o_datE T.hK hr.units) (o_els (o_eqO T.hK (hr.mono (by decide)) T.kit T.eqt (T.t_du19__eq__ (G := G))) (o_eqR T.hK (hr.mono (by decide)) T.eqt (T.t_du19__eq__ (G := G))))) (e_cv T.hK T.cr_Channel T.cv_Channel_MOST (fun _ _ => rfl) (e_glo rfl T.gg_Channel)) (e_c pe_int fun _ _ => rfl) (nomark _)) (e_and T.hK (e_cmp (o_els (o_datE T.hK hr.units) (o_els (o_eqO T.hK (hr.mono (by decide)) T.kit T.eqt (T.t_du19__eq__ (G := G))) (o_eqR T.hK (hr.mono (by decide)) T.eqt (T.t_du19__eq__ (G := G))))) (e_newR0 (fin := frzO) (ks := ["capacity"]) (fun h1 h2 h3 => frz_post h1 h2 (by rw [T.fl_Channel]; rfl) h3) takes_cx T.hK T.mk_Channel (T.kwR_Channel (G := G)) (hr.mono (by decide)) rfl T.gc_Channel (k_cons (e_c pe_int fun _ _ => rfl) k_nil)) (e_new (fin := frzO) (fun h1 h2 h3 => frz_post h1 h2 (by rw [T.fl_Channel]; rfl) h3) takes_cx T.hK T.mk_Channel (T.r0_Channel___init__ (G := G)) (hr.mono (by decide)) rfl T.gc_Channel (a_cons (e_c pe_int fun _ _ => rfl) a_nil)) (nomark _)) (e_one (e_cmp (o_els (o_datE T.hK hr.units) (o_els (o_eqO T.hK (hr.mono (by decide)) T.kit T.eqt (T.t_du19__eq__ (G := G))) (o_eqR T.hK (hr.mono (by decide)) T.eqt (T.t_du19__eq__ (G := G))))) (e_sl T.hK (e_lc (own := [("_law_fault", 8)]) rfl S.nd (i_any T.hK (e_var (pv 3))) (show BlkOk ["_law_script", "_law_pen_here", "_law_turn", "_law_some", "_law_one", "_law_other", "_law_at", "_law_spot", "_law_fault"] (defScope (top 33)) _ [("_law_fault", 8)] from blkOk_by (by decide +kernel)) (gt_name (by decide)) (fun s H C cl fp => (pg_name (i := 8) S.nd rfl (by first | exact .inl rfl | exact .inr rfl))) (fun s H C cl fp tk0 => ts_none) (fun s H C cl fp tk0 => (e_callTy (c_str T.hK (hr.mono (by decide)) (T.t_du24__str__ (G := G))) rfl T.b_str boot_str (a_cons (e_var (pv 8)) a_nil)))) (o_some (e_c pe_int fun _ _ => rfl)) o_none) (e_lst (a_cons (e_c pe_str fun _ _ => rfl) (a_cons (e_c pe_str fun _ _ => rfl) a_nil))) (nomark _))))))))))))
theorem Tp.r0_law (T : Tp w K mg G.toGb) (TL : Tl T base G.T) {sa : Addr} {sn : List Int} (SC : ScOk G sa sn) : FnG P w K mg base (CX P w) 14 T.a_law (spR G (defM 1 [] (v_law sa sn))) :=
  fn_raw (dvs := []) (T.o_law TL SC) (T.F_law.bindsN fun _ _ _ _ _ _ us hl => match us, hl with | [_], _ => rfl) .nil fun _ _ => rfl
def du25__contains__ : Nat → Option BM := fun c => if c = 8 then some (defM 2 [] v_Channel___contains__) else none
theorem Tp.t_du25__contains__ (T : Tp w K mg G.toGb) : ∀ c, DuOk P w mg base G 7 "__contains__" c (du25__contains__ c) := by
  intro c
  unfold du25__contains__
  by_cases h0 : c = 8
  · rw [if_pos h0]; subst h0; exact ⟨T.a_Channel___contains__, T.df_Channel___contains__, T.isf_Channel___contains__, by rw [T.hK]; exact fnUp (j := 7) (by decide) (T.r0_Channel___contains__ (G := G))⟩
  rw [if_neg h0]
  exact trivial
def v_Words_one_of : BM := fnM 0 (sRet (eMe me7_read_if (vget 0) (aCons (bin (els (els (datIn false) (dctIn false)) (conO false du25__contains__)) (eMe me5_peek (vget 0) aNil) (vget 1)) aNil)))
theorem sc_Words_one_of : FnScope ["self", "choices"] ["self", "choices"] (defScope (mth 9 3)) := ⟨rfl, rfl, rfl, by decide +kernel, rfl, by decide +kernel, by decide +kernel⟩
theorem Tp.o_Words_one_of (T : Tp w K mg G.toGb) : FnO P w K mg base (CX P w) 9 T.a_Words_one_of T.fd_Words_one_of ["self", "choices"] (spN G 2 v_Words_one_of) :=
  fn_up T.F_Words_one_of sc_Words_one_of rfl fun cdv A outer s H E hr =>
    have S := sc_Words_one_of
    (ss_one (s_ret (e_me takes_cx T.hK (hr.mono (by decide)) (T.t_me7_read_if (G := G)) (e_var (pv 0)) (a_cons (e_cmp (o_els (o_els (o_datIn T.hK hr.units) (o_dctIn T.hK hr.units)) (o_conO T.hK (hr.mono (by decide)) (T.t_du25__contains__ (G := G)))) (e_me0 takes_cx T.hK (hr.mono (by decide)) (T.t_me5_peek (G := G)) (e_var (pv 0))) (e_var (pv 1)) rfl) a_nil))))
theorem Tp.r0_Words_one_of (T : Tp w K mg G.toGb) : FnG P w K mg base (CX P w) 9 T.a_Words_one_of (spR G (defM 2 [] v_Words_one_of)) :=
  fn_raw (dvs := []) (T.o_Words_one_of) (T.F_Words_one_of.bindsN fun _ _ _ _ _ _ us hl => match us, hl with | [_, _], _ => rfl) .nil fun _ _ => rfl
def me26_one_of : Nat → Option BM := fun c => if c = 3 then some (defM 2 [] v_Words_one_of) else none
theorem Tp.t_me26_one_of (T : Tp w K mg G.toGb) : ∀ c, MeOk P w mg base G 9 "one_of" c (me26_one_of c) := by
  intro c
  unfold me26_one_of
  by_cases h0 : c = 3
  · rw [if_pos h0]; subst h0; exact ⟨T.cl_Words, by rw [T.fl_Words]; decide, T.a_Words_one_of, T.me_Words_one_of, by rw [T.hK]; exact fnUp (j := 9) (by decide) (T.r0_Words_one_of (G := G))⟩
  rw [if_neg h0]
  exact trivial
def v_Words_integer : BM := fnM 1 (sRet (eCall (b1 intW) (aCons (eMe me26_one_of (vget 0) (aCons (eLc (iRg rg2 (aCons (vget 1) (aCons (bin addW (vget 2) (cst (.int 1))) aNil))) (cN 3) tTrue (eCall (b1 (strW du24__str__)) (aCons (vget 3) aNil)) [3]) aNil)) aNil)))
theorem sc_Words_integer : FnScope ["self", "least", "most", "value"] ["self", "least", "most"] (defScope (mth 9 7)) := ⟨rfl, rfl, rfl, by decide +kernel, rfl, by decide +kernel, by decide +kernel⟩
theorem Tp.o_Words_integer (T : Tp w K mg G.toGb) : FnO P w K mg base (CX P w) 10 T.a_Words_integer T.fd_Words_integer ["self", "least", "most"] (spN G 3 v_Words_integer) :=
  fn_up T.F_Words_integer sc_Words_integer rfl fun cdv A outer s H E hr =>
    have S := sc_Words_integer
    (ss_one (s_ret (e_callTy c_int rfl T.b_int PySem.Pv.boot_int (a_cons (e_me takes_cx T.hK (hr.mono (by decide)) (T.t_me26_one_of (G := G)) (e_var (pv 0)) (a_cons (e_lc (own := [("value", 3)]) rfl S.nd (i_rg2 rfl T.b_range (a_cons (e_var (pv 1)) (a_cons (e_bin (o_add T.hK) (e_var (pv 2)) (e_c pe_int fun _ _ => rfl)) a_nil))) (show BlkOk ["self", "least", "most", "value"] (defScope (mth 9 7)) _ [("value", 3)] from blkOk_by (by decide +kernel)) (gt_name (by decide)) (fun s H C cl fp => (pg_name (i := 3) S.nd rfl (by first | exact .inl rfl | exact .inr rfl))) (fun s H C cl fp tk0 => ts_none) (fun s H C cl fp tk0 => (e_callTy (c_str T.hK (hr.mono (by decide)) (T.t_du24__str__ (G := G))) rfl T.b_str boot_str (a_cons (e_var (pv 3)) a_nil)))) a_nil)) a_nil))))
theorem Tp.r0_Words_integer (T : Tp w K mg G.toGb) : FnG P w K mg base (CX P w) 10 T.a_Words_integer (spR G (defM 3 [] v_Words_integer)) :=
  fn_raw (dvs := []) (T.o_Words_integer) (T.F_Words_integer.bindsN fun _ _ _ _ _ _ us hl => match us, hl with | [_, _, _], _ => rfl) .nil fun _ _ => rfl
def v_made_channel_s0 : SM := (sAsg (eLst aNil) (gNm 4))
def v_made_channel_s1 : SM := (sIf (tst (vget 1)) (sDrp (eBM isL appM (vget 4) (aCons (eNew0 frzO 5 0) aNil))) sNop)
def v_made_channel_s2 : SM := (sIf (tst (vget 2)) (sDrp (eBM isL appM (vget 4) (aCons (eNew0 frzO 6 0) aNil))) sNop)
def v_made_channel_s3 : SM := (sIf (tB1 (bin (gtI) (vget 3) (cst (.int 0)))) (sDrp (eBM isL appM (vget 4) (aCons (eNew frzO 7 1 (defM 2 [] v_Overtakes___init__) (aCons (vget 3) aNil)) aNil))) sNop)
def v_made_channel_s4 : SM := (sRet (eNew frzO 8 2 (defS 2 v_Channel___init__) (aCons (vget 0) (aStar (vget 4) aNil))))
def v_made_channel : BM := fnM 1 (sSeq v_made_channel_s0 (sSeq v_made_channel_s1 (sSeq v_made_channel_s2 (sSeq v_made_channel_s3 v_made_channel_s4))))
theorem sc_made_channel : FnScope ["capacity", "loses", "doubles", "overtakes", "faults"] ["capacity", "loses", "doubles", "overtakes"] (defScope (top 18)) := ⟨rfl, rfl, rfl, by decide +kernel, rfl, by decide +kernel, by decide +kernel⟩
theorem Tp.o_made_channel (T : Tp w K mg G.toGb) : FnO P w K mg base (CX P w) 10 T.a_made_channel T.fd_made_channel ["capacity", "loses", "doubles", "overtakes"] (spN G 4 v_made_channel) :=
  fn_up T.F_made_channel sc_made_channel rfl fun cdv A outer s H E hr =>
    have S := sc_made_channel
    (ss_cons (s_set (i := 4) S.nd rfl (by first | exact .inl rfl | exact .inr rfl) (e_lst a_nil))
  (ss_cons (s_if (t_val T.hK (e_var (pv 1))) (ss_one (s_expr (e_bmL (pe_bm PySem.F.plainAttrs_list PySem.F.slot_list_append PySem.F.type_list_append m_append (e_var (pv 4)) (a_cons (e_new0 (fin := frzO) (fun h1 h2 h3 => frz_post h1 h2 (by rw [T.fl_Loses]; rfl) h3) T.hK T.mk0_Loses rfl T.gc_Loses) a_nil))))) ss_nil)
  (ss_cons (s_if (t_val T.hK (e_var (pv 2))) (ss_one (s_expr (e_bmL (pe_bm PySem.F.plainAttrs_list PySem.F.slot_list_append PySem.F.type_list_append m_append (e_var (pv 4)) (a_cons (e_new0 (fin := frzO) (fun h1 h2 h3 => frz_post h1 h2 (by rw [T.fl_Doubles]; rfl) h3) T.hK T.mk0_Doubles rfl T.gc_Doubles) a_nil))))) ss_nil)
  (ss_cons (s_if (t_cmp o_gtI (e_var (pv 3)) (e_c pe_int fun _ _ => rfl) (nomark _)) (ss_one (s_expr (e_bmL (pe_bm PySem.F.plainAttrs_list PySem.F.slot_list_append PySem.F.type_list_append m_append (e_var (pv 4)) (a_cons (e_new (fin := frzO) (fun h1 h2 h3 => frz_post h1 h2 (by rw [T.fl_Overtakes]; rfl) h3) takes_cx T.hK T.mk_Overtakes (T.r0_Overtakes___init__ (G := G)) (hr.mono (by decide)) rfl T.gc_Overtakes (a_cons (e_var (pv 3)) a_nil)) a_nil))))) ss_nil)
  (ss_one (s_ret (e_newS (fin := frzO) (fun h1 h2 h3 => frz_post h1 h2 (by rw [T.fl_Channel]; rfl) h3) takes_cx T.hK T.mk_Channel (T.r0_Channel___init__ (G := G)) (hr.mono (by decide)) rfl T.gc_Channel (a_cons (e_var (pv 0)) (a_star T.hK (e_var (pv 4)) a_nil)))))))))
theorem Tp.r0_made_channel (T : Tp w K mg G.toGb) : FnG P w K mg base (CX P w) 10 T.a_made_channel (spR G (defM 4 [] v_made_channel)) :=
  fn_raw (dvs := []) (T.o_made_channel) (T.F_made_channel.bindsN fun _ _ _ _ _ _ us hl => match us, hl with | [_, _, _, _], _ => rfl) .nil fun _ _ => rfl
def v_Channel___and___s0 : SM := (sDrp (eFn (defM 1 [] v_need_channel) (aCons (vget 1) aNil)))
def v_Channel___and___s1 : SM := (sAsg (vAnd (eAx at21_loses at21_losesx (vget 0)) (eAx at21_loses at21_losesx (vget 1))) (gNm 2))
def v_Channel___and___s2 : SM := (sAsg (vAnd (eAx at20_doubles at20_doublesx (vget 0)) (eAx at20_doubles at20_doublesx (vget 1))) (gNm 3))
def v_Channel___and___s3 : SM := (sAsg (eCall (minmax false) (aCons (eCall (b1 intW) (aCons (eAx at16_overtakes at16_overtakesx (vget 0)) aNil)) (aCons (eCall (b1 intW) (aCons (eAx at16_overtakes at16_overtakesx (vget 1)) aNil)) aNil))) (gNm 4))
def v_Channel___and___s4 : SM := (sRet (eFn (defM 4 [] v_made_channel) (aCons (eCall (minmax false) (aCons (eCall (b1 intW) (aCons (eAx at17_capacity at17_capacityx (vget 0)) aNil)) (aCons (eCall (b1 intW) (aCons (eAx at17_capacity at17_capacityx (vget 1)) aNil)) aNil))) (aCons (vget 2) (aCons (vget 3) (aCons (vget 4) aNil))))))
def v_Channel___and__ : BM := fnM 3 (sSeq v_Channel___and___s0 (sSeq v_Channel___and___s1 (sSeq v_Channel___and___s2 (sSeq v_Channel___and___s3 v_Channel___and___s4))))
theorem sc_Channel___and__ : FnScope ["self", "other", "loses", "doubles", "overtakes"] ["self", "other"] (defScope (mth 19 9)) := ⟨rfl, rfl, rfl, by decide +kernel, rfl, by decide +kernel, by decide +kernel⟩
theorem Tp.o_Channel___and__ (T : Tp w K mg G.toGb) : FnO P w K mg base (CX P w) 11 T.a_Channel___and__ T.fd_Channel___and__ ["self", "other"] (spN G 2 v_Channel___and__) :=
  fn_up T.F_Channel___and__ sc_Channel___and__ rfl fun cdv A outer s H E hr =>
    have S := sc_Channel___and__
    (ss_cons (s_expr (e_call takes_cx (T.r0_need_channel (G := G)) (hr.mono (by decide)) rfl T.g_need_channel T.F_need_channel.kp (a_cons (e_var (pv 1)) a_nil)))
  (ss_cons (s_set (i := 2) S.nd rfl (by first | exact .inl rfl | exact .inr rfl) (e_and T.hK (e_ax takes_cx T.hK (hr.mono (by decide)) (T.t_at21_loses (G := G)) (T.t_at21_losesx (G := G)) (e_var (pv 0))) (e_one (e_ax takes_cx T.hK (hr.mono (by decide)) (T.t_at21_loses (G := G)) (T.t_at21_losesx (G := G)) (e_var (pv 1))))))
  (ss_cons (s_set (i := 3) S.nd rfl (by first | exact .inl rfl | exact .inr rfl) (e_and T.hK (e_ax takes_cx T.hK (hr.mono (by decide)) (T.t_at20_doubles (G := G)) (T.t_at20_doublesx (G := G)) (e_var (pv 0))) (e_one (e_ax takes_cx T.hK (hr.mono (by decide)) (T.t_at20_doubles (G := G)) (T.t_at20_doublesx (G := G)) (e_var (pv 1))))))
  (ss_cons (s_set (i := 4) S.nd rfl (by first | exact .inl rfl | exact .inr rfl) (e_callB (c_min rfl) rfl T.b_min boot_min (a_cons (e_callTy c_int rfl T.b_int PySem.Pv.boot_int (a_cons (e_ax takes_cx T.hK (hr.mono (by decide)) (T.t_at16_overtakes (G := G)) (T.t_at16_overtakesx (G := G)) (e_var (pv 0))) a_nil)) (a_cons (e_callTy c_int rfl T.b_int PySem.Pv.boot_int (a_cons (e_ax takes_cx T.hK (hr.mono (by decide)) (T.t_at16_overtakes (G := G)) (T.t_at16_overtakesx (G := G)) (e_var (pv 1))) a_nil)) a_nil))))
  (ss_one (s_ret (e_call takes_cx (T.r0_made_channel (G := G)) (hr.mono (by decide)) rfl T.g_made_channel T.F_made_channel.kp (a_cons (e_callB (c_min rfl) rfl T.b_min boot_min (a_cons (e_callTy c_int rfl T.b_int PySem.Pv.boot_int (a_cons (e_ax takes_cx T.hK (hr.mono (by decide)) (T.t_at17_capacity (G := G)) (T.t_at17_capacityx (G := G)) (e_var (pv 0))) a_nil)) (a_cons (e_callTy c_int rfl T.b_int PySem.Pv.boot_int (a_cons (e_ax takes_cx T.hK (hr.mono (by decide)) (T.t_at17_capacity (G := G)) (T.t_at17_capacityx (G := G)) (e_var (pv 1))) a_nil)) a_nil))) (a_cons (e_var (pv 2)) (a_cons (e_var (pv 3)) (a_cons (e_var (pv 4)) a_nil)))))))))))
theorem Tp.r0_Channel___and__ (T : Tp w K mg G.toGb) : FnG P w K mg base (CX P w) 11 T.a_Channel___and__ (spR G (defM 2 [] v_Channel___and__)) :=
  fn_raw (dvs := []) (T.o_Channel___and__) (T.F_Channel___and__.bindsN fun _ _ _ _ _ _ us hl => match us, hl with | [_, _], _ => rfl) .nil fun _ _ => rfl
def v_Channel___or___s0 : SM := (sDrp (eFn (defM 1 [] v_need_channel) (aCons (vget 1) aNil)))
def v_Channel___or___s1 : SM := (sAsg (vOr (eAx at21_loses at21_losesx (vget 0)) (eAx at21_loses at21_losesx (vget 1))) (gNm 2))
def v_Channel___or___s2 : SM := (sAsg (vOr (eAx at20_doubles at20_doublesx (vget 0)) (eAx at20_doubles at20_doublesx (vget 1))) (gNm 3))
def v_Channel___or___s3 : SM := (sAsg (eCall (minmax true) (aCons (eCall (b1 intW) (aCons (eAx at16_overtakes at16_overtakesx (vget 0)) aNil)) (aCons (eCall (b1 intW) (aCons (eAx at16_overtakes at16_overtakesx (vget 1)) aNil)) aNil))) (gNm 4))
def v_Channel___or___s4 : SM := (sRet (eFn (defM 4 [] v_made_channel) (aCons (eCall (minmax true) (aCons (eCall (b1 intW) (aCons (eAx at17_capacity at17_capacityx (vget 0)) aNil)) (aCons (eCall (b1 intW) (aCons (eAx at17_capacity at17_capacityx (vget 1)) aNil)) aNil))) (aCons (vget 2) (aCons (vget 3) (aCons (vget 4) aNil))))))
def v_Channel___or__ : BM := fnM 3 (sSeq v_Channel___or___s0 (sSeq v_Channel___or___s1 (sSeq v_Channel___or___s2 (sSeq v_Channel___or___s3 v_Channel___or___s4))))
theorem sc_Channel___or__ : FnScope ["self", "other", "loses", "doubles", "overtakes"] ["self", "other"] (defScope (mth 19 10)) := ⟨rfl, rfl, rfl, by decide +kernel, rfl, by decide +kernel, by decide +kernel⟩
theorem Tp.o_Channel___or__ (T : Tp w K mg G.toGb) : FnO P w K mg base (CX P w) 11 T.a_Channel___or__ T.fd_Channel___or__ ["self", "other"] (spN G 2 v_Channel___or__) :=
  fn_up T.F_Channel___or__ sc_Channel___or__ rfl fun cdv A outer s H E hr =>
    have S := sc_Channel___or__
    (ss_cons (s_expr (e_call takes_cx (T.r0_need_channel (G := G)) (hr.mono (by decide)) rfl T.g_need_channel T.F_need_channel.kp (a_cons (e_var (pv 1)) a_nil)))
  (ss_cons (s_set (i := 2) S.nd rfl (by first | exact .inl rfl | exact .inr rfl) (e_or T.hK (e_ax takes_cx T.hK (hr.mono (by decide)) (T.t_at21_loses (G := G)) (T.t_at21_losesx (G := G)) (e_var (pv 0))) (e_one (e_ax takes_cx T.hK (hr.mono (by decide)) (T.t_at21_loses (G := G)) (T.t_at21_losesx (G := G)) (e_var (pv 1))))))
  (ss_cons (s_set (i := 3) S.nd rfl (by first | exact .inl rfl | exact .inr rfl) (e_or T.hK (e_ax takes_cx T.hK (hr.mono (by decide)) (T.t_at20_doubles (G := G)) (T.t_at20_doublesx (G := G)) (e_var (pv 0))) (e_one (e_ax takes_cx T.hK (hr.mono (by decide)) (T.t_at20_doubles (G := G)) (T.t_at20_doublesx (G := G)) (e_var (pv 1))))))
  (ss_cons (s_set (i := 4) S.nd rfl (by first | exact .inl rfl | exact .inr rfl) (e_callB (c_max rfl) rfl T.b_max boot_max (a_cons (e_callTy c_int rfl T.b_int PySem.Pv.boot_int (a_cons (e_ax takes_cx T.hK (hr.mono (by decide)) (T.t_at16_overtakes (G := G)) (T.t_at16_overtakesx (G := G)) (e_var (pv 0))) a_nil)) (a_cons (e_callTy c_int rfl T.b_int PySem.Pv.boot_int (a_cons (e_ax takes_cx T.hK (hr.mono (by decide)) (T.t_at16_overtakes (G := G)) (T.t_at16_overtakesx (G := G)) (e_var (pv 1))) a_nil)) a_nil))))
  (ss_one (s_ret (e_call takes_cx (T.r0_made_channel (G := G)) (hr.mono (by decide)) rfl T.g_made_channel T.F_made_channel.kp (a_cons (e_callB (c_max rfl) rfl T.b_max boot_max (a_cons (e_callTy c_int rfl T.b_int PySem.Pv.boot_int (a_cons (e_ax takes_cx T.hK (hr.mono (by decide)) (T.t_at17_capacity (G := G)) (T.t_at17_capacityx (G := G)) (e_var (pv 0))) a_nil)) (a_cons (e_callTy c_int rfl T.b_int PySem.Pv.boot_int (a_cons (e_ax takes_cx T.hK (hr.mono (by decide)) (T.t_at17_capacity (G := G)) (T.t_at17_capacityx (G := G)) (e_var (pv 1))) a_nil)) a_nil))) (a_cons (e_var (pv 2)) (a_cons (e_var (pv 3)) (a_cons (e_var (pv 4)) a_nil)))))))))))
theorem Tp.r0_Channel___or__ (T : Tp w K mg G.toGb) : FnG P w K mg base (CX P w) 11 T.a_Channel___or__ (spR G (defM 2 [] v_Channel___or__)) :=
  fn_raw (dvs := []) (T.o_Channel___or__) (T.F_Channel___or__.bindsN fun _ _ _ _ _ _ us hl => match us, hl with | [_, _], _ => rfl) .nil fun _ _ => rfl
def me27_integer : Nat → Option BM := fun c => if c = 3 then some (defM 3 [] v_Words_integer) else none
theorem Tp.t_me27_integer (T : Tp w K mg G.toGb) : ∀ c, MeOk P w mg base G 10 "integer" c (me27_integer c) := by
  intro c
  unfold me27_integer
  by_cases h0 : c = 3
  · rw [if_pos h0]; subst h0; exact ⟨T.cl_Words, by rw [T.fl_Words]; decide, T.a_Words_integer, T.me_Words_integer, by rw [T.hK]; exact fnUp (j := 10) (by decide) (T.r0_Words_integer (G := G))⟩
  rw [if_neg h0]
  exact trivial
def me28_ask : Nat → Option BM := fun c => if c = 3 then some (defM 2 [] v_Words_ask) else none
theorem Tp.t_me28_ask (T : Tp w K mg G.toGb) : ∀ c, MeOk P w mg base G 3 "ask" c (me28_ask c) := by
  intro c
  unfold me28_ask
  by_cases h0 : c = 3
  · rw [if_pos h0]; subst h0; exact ⟨T.cl_Words, by rw [T.fl_Words]; decide, T.a_Words_ask, T.me_Words_ask, by rw [T.hK]; exact fnUp (j := 3) (by decide) (T.r0_Words_ask (G := G))⟩
  rw [if_neg h0]
  exact trivial
def v_channel_from_s0 : SM := (sAsg (eMe me27_integer (vget 0) (aCons (cst (.int 1)) (aCons (eCv 8 (W.int (3)) (cst (.glo 8))) aNil))) (gNm 1))
def v_channel_from_s1 : SM := (sAsg (eMe me28_ask (vget 0) (aCons (cst (.str "loses")) aNil)) (gNm 2))
def v_channel_from_s2 : SM := (sAsg (eMe me28_ask (vget 0) (aCons (cst (.str "doubles")) aNil)) (gNm 3))
def v_channel_from_s3 : SM := (sAsg (cst (.int 0)) (gNm 4))
def v_channel_from_s4 : SM := (sIf (tst (eMe me28_ask (vget 0) (aCons (cst (.str "overtakes")) aNil))) (sAsg (eMe me27_integer (vget 0) (aCons (cst (.int 1)) (aCons (cst (.int 2)) aNil))) (gNm 4)) sNop)
def v_channel_from_s5 : SM := (sRet (eFn (defM 4 [] v_made_channel) (aCons (vget 1) (aCons (vget 2) (aCons (vget 3) (aCons (vget 4) aNil))))))
def v_channel_from : BM := fnM 4 (sSeq v_channel_from_s0 (sSeq v_channel_from_s1 (sSeq v_channel_from_s2 (sSeq v_channel_from_s3 (sSeq v_channel_from_s4 v_channel_from_s5)))))
theorem sc_channel_from : FnScope ["words", "capacity", "loses", "doubles", "overtakes"] ["words"] (defScope (top 21)) := ⟨rfl, rfl, rfl, by decide +kernel, rfl, by decide +kernel, by decide +kernel⟩
theorem Tp.o_channel_from (T : Tp w K mg G.toGb) : FnO P w K mg base (CX P w) 11 T.a_channel_from T.fd_channel_from ["words"] (spN G 1 v_channel_from) :=
  fn_up T.F_channel_from sc_channel_from rfl fun cdv A outer s H E hr =>
    have S := sc_channel_from
    (ss_cons (s_set (i := 1) S.nd rfl (by first | exact .inl rfl | exact .inr rfl) (e_me takes_cx T.hK (hr.mono (by decide)) (T.t_me27_integer (G := G)) (e_var (pv 0)) (a_cons (e_c pe_int fun _ _ => rfl) (a_cons (e_cv T.hK T.cr_Channel T.cv_Channel_MOST (fun _ _ => rfl) (e_glo rfl T.gg_Channel)) a_nil))))
  (ss_cons (s_set (i := 2) S.nd rfl (by first | exact .inl rfl | exact .inr rfl) (e_me takes_cx T.hK (hr.mono (by decide)) (T.t_me28_ask (G := G)) (e_var (pv 0)) (a_cons (e_c pe_str fun _ _ => rfl) a_nil)))
  (ss_cons (s_set (i := 3) S.nd rfl (by first | exact .inl rfl | exact .inr rfl) (e_me takes_cx T.hK (hr.mono (by decide)) (T.t_me28_ask (G := G)) (e_var (pv 0)) (a_cons (e_c pe_str fun _ _ => rfl) a_nil)))
  (ss_cons (s_set (i := 4) S.nd rfl (by first | exact .inl rfl | exact .inr rfl) (e_c pe_int fun _ _ => rfl))
  (ss_cons (s_if (t_val T.hK (e_me takes_cx T.hK (hr.mono (by decide)) (T.t_me28_ask (G := G)) (e_var (pv 0)) (a_cons (e_c pe_str fun _ _ => rfl) a_nil))) (ss_one (s_set (i := 4) S.nd rfl (by first | exact .inl rfl | exact .inr rfl) (e_me takes_cx T.hK (hr.mono (by decide)) (T.t_me27_integer (G := G)) (e_var (pv 0)) (a_cons (e_c pe_int fun _ _ => rfl) (a_cons (e_gloI rfl T.k_MOST_OVERTAKEN.choose_spec.1 T.k_MOST_OVERTAKEN.choose_spec.2) a_nil))))) ss_nil)
  (ss_one (s_ret (e_call takes_cx (T.r0_made_channel (G := G)) (hr.mono (by decide)) rfl T.g_made_channel T.F_made_channel.kp (a_cons (e_var (pv 1)) (a_cons (e_var (pv 2)) (a_cons (e_var (pv 3)) (a_cons (e_var (pv 4)) a_nil))))))))))))
theorem Tp.r0_channel_from (T : Tp w K mg G.toGb) : FnG P w K mg base (CX P w) 11 T.a_channel_from (spR G (defM 1 [] v_channel_from)) :=
  fn_raw (dvs := []) (T.o_channel_from) (T.F_channel_from.bindsN fun _ _ _ _ _ _ us hl => match us, hl with | [_], _ => rfl) .nil fun _ _ => rfl
def du29__or__ : Nat → Option BM := fun c => if c = 8 then some (defM 2 [] v_Channel___or__) else none
theorem Tp.t_du29__or__ (T : Tp w K mg G.toGb) : ∀ c, DuOk P w mg base G 11 "__or__" c (du29__or__ c) := by
  intro c
  unfold du29__or__
  by_cases h0 : c = 8
  · rw [if_pos h0]; subst h0; exact ⟨T.a_Channel___or__, T.df_Channel___or__, T.isf_Channel___or__, by rw [T.hK]; exact fnUp (j := 11) (by decide) (T.r0_Channel___or__ (G := G))⟩
  rw [if_neg h0]
  exact trivial
theorem Tp.o_du29__or__ (T : Tp w K mg G.toGb) : OpT G.toGb "or" ([3, 4, 5, 6, 7] : List Nat).contains du29__or__ := by
  refine opT_of T.op_or fun c e => ?_
  unfold du29__or__ at e
  by_cases h0 : c = 8
  · subst h0; decide
  rw [if_neg h0] at e
  cases e
def v_Channel___add___s0 : SM := (sIf (mNot (tst (eFn (defM 1 [] v_is_kind) (aCons (vget 1) aNil)))) (sRaise 1 1 (aCons (cst (.str "fault")) aNil)) sNop)
def v_Channel___add___s1 : SM := (sRet (binO 9 clsSub ([3, 4, 5, 6, 7] : List Nat).contains du29__or__ (vget 0) (eNew frzO 8 2 (defS 2 v_Channel___init__) (aCons (eAx at17_capacity at17_capacityx (vget 0)) (aCons (vget 1) aNil)))))
def v_Channel___add__ : BM := fnM 0 (sSeq v_Channel___add___s0 v_Channel___add___s1)
theorem sc_Channel___add__ : FnScope ["self", "other"] ["self", "other"] (defScope (mth 19 7)) := ⟨rfl, rfl, rfl, by decide +kernel, rfl, by decide +kernel, by decide +kernel⟩
theorem Tp.o_Channel___add__ (T : Tp w K mg G.toGb) : FnO P w K mg base (CX P w) 13 T.a_Channel___add__ T.fd_Channel___add__ ["self", "other"] (spN G 2 v_Channel___add__) :=
  fn_up T.F_Channel___add__ sc_Channel___add__ rfl fun cdv A outer s H E hr =>
    have S := sc_Channel___add__
    (ss_cons (s_if (t_not (t_val T.hK (e_call takes_cx (T.r0_is_kind (G := G)) (hr.mono (by decide)) rfl T.g_is_kind T.F_is_kind.kp (a_cons (e_var (pv 1)) a_nil)))) (ss_one (s_raise (fl := ["part"]) takes_cx T.hK T.ex_BadChannel rfl (by decide) (by decide) T.ei_BadChannel T.et_BadChannel (T.xi_BadChannel) (hr.mono (by decide)) T.xb_BadChannel rfl T.gc_BadChannel (a_cons (e_c pe_str fun _ _ => rfl) a_nil))) ss_nil)
  (ss_one (s_ret (e_opO (id := "__or__") (by decide) takes_cx T.hK (hr.mono (by decide)) T.kit T.eqt (T.t_du29__or__ (G := G)) (T.o_du29__or__) (e_var (pv 0)) (e_new (fin := frzO) (fun h1 h2 h3 => frz_post h1 h2 (by rw [T.fl_Channel]; rfl) h3) takes_cx T.hK T.mk_Channel (T.r0_Channel___init__ (G := G)) (hr.mono (by decide)) rfl T.gc_Channel (a_cons (e_ax takes_cx T.hK (hr.mono (by decide)) (T.t_at17_capacity (G := G)) (T.t_at17_capacityx (G := G)) (e_var (pv 0))) (a_cons (e_var (pv 1)) a_nil)))))))
theorem Tp.r0_Channel___add__ (T : Tp w K mg G.toGb) : FnG P w K mg base (CX P w) 13 T.a_Channel___add__ (spR G (defM 2 [] v_Channel___add__)) :=
  fn_raw (dvs := []) (T.o_Channel___add__) (T.F_Channel___add__.bindsN fun _ _ _ _ _ _ us hl => match us, hl with | [_, _], _ => rfl) .nil fun _ _ => rfl
def me30_close : Nat → Option BM := fun c => if c = 3 then some (defM 1 [] v_Words_close) else none
theorem Tp.t_me30_close (T : Tp w K mg G.toGb) : ∀ c, MeOk P w mg base G 3 "close" c (me30_close c) := by
  intro c
  unfold me30_close
  by_cases h0 : c = 3
  · rw [if_pos h0]; subst h0; exact ⟨T.cl_Words, by rw [T.fl_Words]; decide, T.a_Words_close, T.me_Words_close, by rw [T.hK]; exact fnUp (j := 3) (by decide) (T.r0_Words_close (G := G))⟩
  rw [if_neg h0]
  exact trivial
def v_Channel_read_s0 : SM := (sAsg (eNew keepO 3 3 (defM 3 [(W.int (0))] v_Words___init__) (aCons (vget 1) aNil)) (gNm 2))
def v_Channel_read_s1 : SM := (sAsg (eFn (defM 1 [] v_channel_from) (aCons (vget 2) aNil)) (gNm 3))
def v_Channel_read_s2 : SM := (sDrp (eMe me30_close (vget 2) aNil))
def v_Channel_read_s3 : SM := (sRet (vget 3))
def v_Channel_read : BM := fnM 2 (sSeq v_Channel_read_s0 (sSeq v_Channel_read_s1 (sSeq v_Channel_read_s2 v_Channel_read_s3)))
theorem sc_Channel_read : FnScope ["cls", "text", "words", "channel"] ["cls", "text"] (defScope (mth 19 14)) := ⟨rfl, rfl, rfl, by decide +kernel, rfl, by decide +kernel, by decide +kernel⟩
theorem Tp.o_Channel_read (T : Tp w K mg G.toGb) : FnO P w K mg base (CX P w) 12 T.a_Channel_read T.fd_Channel_read ["cls", "text"] (spN G 2 v_Channel_read) :=
  fn_up T.F_Channel_read sc_Channel_read rfl fun cdv A outer s H E hr =>
    have S := sc_Channel_read
    (ss_cons (s_set (i := 2) S.nd rfl (by first | exact .inl rfl | exact .inr rfl) (e_new (fin := keepO) (fun h1 h2 h3 => keep_post h1 h2 (by rw [T.fl_Words]; rfl) h3) takes_cx T.hK T.mk_Words (T.r1_Words___init__ (G := G)) (hr.mono (by decide)) rfl T.gc_Words (a_cons (e_var (pv 1)) a_nil)))
  (ss_cons (s_set (i := 3) S.nd rfl (by first | exact .inl rfl | exact .inr rfl) (e_call takes_cx (T.r0_channel_from (G := G)) (hr.mono (by decide)) rfl T.g_channel_from T.F_channel_from.kp (a_cons (e_var (pv 2)) a_nil)))
  (ss_cons (s_expr (e_me0 takes_cx T.hK (hr.mono (by decide)) (T.t_me30_close (G := G)) (e_var (pv 2))))
  (ss_one (s_ret (e_var (pv 3)))))))
theorem Tp.r0_Channel_read (T : Tp w K mg G.toGb) : FnG P w K mg base (CX P w) 12 T.a_Channel_read (spR G (defM 2 [] v_Channel_read)) :=
  fn_raw (dvs := []) (T.o_Channel_read) (T.F_Channel_read.bindsN fun _ _ _ _ _ _ us hl => match us, hl with | [_, _], _ => rfl) .nil fun _ _ => rfl
end
end
end Lw
set_option Elab.async false
set_option linter.all false
set_option maxRecDepth 100000
set_option maxHeartbeats 0
namespace Lw
open PySem PySem.Spec PyProof.Rows L2 Mp
theorem draw_left {S : Sto} {p c : Nat} {at_ left many : Int} (h1 : S[p]? = some (.lst [.loc c, .int at_, .int left])) (h0 : 0 < left) (hm : 0 < many) (hm2 : many < 1073741824) :
    v__law_draw [.loc p, .int many] S = .ok (.int (left % many)) (S.set p (.lst [.loc c, .int at_, .int (left / many)])) := by
  have hp : p < S.length := (List.getElem?_eq_some_iff.mp h1).1
  unfold v__law_draw v__law_draw_s0
  simp [h1, h0, hm, hm2, ixN, List.replicate]
theorem draw_new {S : Sto} {p c a : Nat} {ns : List Int} {left many : Int} (h1 : S[p]? = some (.lst [.loc c, .int a, .int left])) (h0 : ¬ 0 < left) (hc : S[c]? = some (.lst (ns.map W.int))) (hpc : p ≠ c) (ha : a ≤ 1000000) (hm : 0 < many) (hm2 : many < 1073741824) :
    ∃ r left', 0 ≤ r ∧ r < many ∧ ∃ S', v__law_draw [.loc p, .int many] S = .ok (.int r) S' ∧ S'[p]? = some (.lst [.loc c, .int ((a + 1 : Nat) : Int), .int left']) ∧ S'.length = S.length + 1 ∧ ∀ l, l ≠ p → l < S.length → S'[l]? = S[l]? := by
  have hp : p < S.length := (List.getElem?_eq_some_iff.mp h1).1
  have hcl : c < S.length := (List.getElem?_eq_some_iff.mp hc).1
  have big0 : (0 : Nat) ≤ big := by decide
  have bb : ∀ x : Int, 0 ≤ x % many ∧ x % many < many := fun x => ⟨Int.emod_nonneg _ (by omega), Int.emod_lt_of_pos _ hm⟩
  obtain ⟨T, hT⟩ : ∃ T, T = S.set p (.lst [.loc c, .int ((a : Int) + 1), .int left]) := ⟨_, rfl⟩
  have q1 : T[p]? = some (.lst [.loc c, .int ((a : Int) + 1), .int left]) := by rw [hT]; exact List.getElem?_set_self hp
  have q1c : T[c]? = some (.lst (ns.map W.int)) := by rw [hT, List.getElem?_set_ne hpc]; exact hc
  have tl : T.length = S.length := by rw [hT]; simp
  have tk : ∀ l, l ≠ p → T[l]? = S[l]? := fun l hl => by rw [hT, List.getElem?_set_ne (fun z => hl z.symm)]
  obtain ⟨U, hU⟩ : ∃ U, U = T ++ [.lst []] := ⟨_, rfl⟩
  have u1 : U[p]? = some (.lst [.loc c, .int ((a : Int) + 1), .int left]) := by rw [hU, List.getElem?_append_left (by rw [tl]; exact hp)]; exact q1
  have u2 : U[c]? = some (.lst (ns.map W.int)) := by rw [hU, List.getElem?_append_left (by rw [tl]; exact hcl)]; exact q1c
  have u3 : U[T.length]? = some (.lst []) := by rw [hU, List.getElem?_append_right (Nat.le_refl _)]; simp
  have d1 : dat U 40 (.loc c) = some (.list (ns.map PyData.int)) := dat_lst u2
  have d2 : dat U 40 (.loc T.length) = some (.list []) := by
    show (match U[T.length]? with | some (.lst ws) => (optAll (dat U 39) ws).map PyData.list | _ => none) = _
    rw [u3]; rfl
  have ul : U.length = S.length + 1 := by rw [hU]; simp [tl]
  have up : p < U.length := by omega
  have uk : ∀ l, l ≠ p → l < S.length → U[l]? = S[l]? := fun l hl hs => by rw [hU, List.getElem?_append_left (by rw [tl]; exact hs)]; exact tk l hl
  have c3 : (-18446744073709551616 : Int) < (a : Int) := by omega
  have c4 : (a : Int) < 18446744073709551616 := by omega
  have t0 : v__law_draw_s0 [some (.loc p), some (.int many), none, none, none, none, none] S = .nx [some (.loc p), some (.int many), none, none, none, none, none] S := by
    unfold v__law_draw_s0
    simp [h1, h0, ixN]
  have t1 : v__law_draw_s1 [some (.loc p), some (.int many), none, none, none, none, none] S = .nx [some (.loc p), some (.int many), none, some (.int a), none, none, none] S := by
    unfold v__law_draw_s1
    simp [h1, ixN]
  have t2 : v__law_draw_s2 [some (.loc p), some (.int many), none, some (.int a), none, none, none] S = .nx [some (.loc p), some (.int many), none, some (.int a), none, none, none] T := by
    unfold v__law_draw_s2
    simp [h1, ixN, hT]
  have t3 : ∃ c0 : Int, v__law_draw_s3 [some (.loc p), some (.int many), none, some (.int a), none, none, none] T = .nx [some (.loc p), some (.int many), none, some (.int a), some (.int c0), none, none] T := by
    unfold v__law_draw_s3
    simp [c3, c4]
  obtain ⟨c0, t3⟩ := t3
  have t4 : ∃ cell : Int, v__law_draw_s4 [some (.loc p), some (.int many), none, some (.int a), some (.int c0), none, none] T = .nx [some (.loc p), some (.int many), none, some (.int a), some (.int cell), none, none] U := by
    unfold v__law_draw_s4
    by_cases hns : ns = []
    · subst hns
      have z1 : PyData.eqv (.list []) (.list []) = true := rfl
      refine ⟨c0, ?_⟩
      simp at d1
      simp [q1, ixN, big0, ← hU, d1, d2, z1]
    · have hl : 0 < ns.length := List.length_pos_iff.mpr hns
      obtain ⟨k, hkd⟩ : ∃ k, k = a % ns.length := ⟨_, rfl⟩
      have hk : k < ns.length := by rw [hkd]; exact Nat.mod_lt _ hl
      have hg : ns[k]? = some ns[k] := List.getElem?_eq_getElem hk
      have e : PyData.eqv (.list (ns.map PyData.int)) (.list []) = false := by rw [eqv_nil]; cases ns with | nil => exact absurd rfl hns | cons _ _ => rfl
      refine ⟨ns[k], ?_⟩
      have em : ((a : Int) % (ns.length : Int)) = (k : Int) := by rw [hkd]; simp
      simp [q1, ixN, big0, ← hU, d1, d2, e, u1, u2, hl, em, hk, hg]
  obtain ⟨cell, t4⟩ := t4
  have t5 : (∃ r l', 0 ≤ r ∧ r < many ∧ v__law_draw_s5 [some (.loc p), some (.int many), none, some (.int a), some (.int cell), none, none] U = .rt (.int r) (U.set p (.lst [.loc c, .int ((a : Int) + 1), .int l']))) ∨ v__law_draw_s5 [some (.loc p), some (.int many), none, some (.int a), some (.int cell), none, none] U = .nx [some (.loc p), some (.int many), none, some (.int a), some (.int cell), none, none] U := by
    unfold v__law_draw_s5
    obtain ⟨ab, hab⟩ : ∃ ab : Int, ab = if cell < 0 then -cell else cell := ⟨_, rfl⟩
    by_cases g1 : (a : Int) < (ns.length : Int)
    · by_cases g2 : powZ 10 18 ≤ ab
      · refine .inl ⟨(2 * (ab - powZ 10 18) + if cell < 0 then 1 else 0) % many, (2 * (ab - powZ 10 18) + if cell < 0 then 1 else 0) / many, (bb _).1, (bb _).2, ?_⟩
        simp [u1, u2, ixN, g1, ← hab, g2, hm, hm2]
      · exact .inr (by simp [u1, u2, ixN, g1, ← hab, g2])
    · exact .inr (by simp [u1, u2, ixN, g1])
  have t6 : ∃ m1, v__law_draw_s6 [some (.loc p), some (.int many), none, some (.int a), some (.int cell), none, none] U = .nx [some (.loc p), some (.int many), none, some (.int a), some (.int cell), none, some (.int m1)] U ∧ 0 ≤ m1 ∧ m1 < 2147483629 := by
    have e1 : 0 ≤ cell % 2147483563 ∧ cell % 2147483563 < 2147483563 := ⟨Int.emod_nonneg _ (by decide), Int.emod_lt_of_pos _ (by decide)⟩
    have n1 : (cell % 2147483563 + 50021 * (a : Int) + 1201).natAbs < 18446744073709551616 := by omega
    refine ⟨powZ (cell % 2147483563 + 50021 * (a : Int) + 1201) 5 % 2147483629, ?_, Int.emod_nonneg _ (by decide), Int.emod_lt_of_pos _ (by decide)⟩
    unfold v__law_draw_s6
    simp [c3, c4, n1]
  obtain ⟨m1, t6, g1, g2⟩ := t6
  have t7 : ∃ m2, v__law_draw_s7 [some (.loc p), some (.int many), none, some (.int a), some (.int cell), none, some (.int m1)] U = .nx [some (.loc p), some (.int many), none, some (.int a), some (.int cell), none, some (.int m2)] U := by
    have n2 : (m1 * (2 * (a : Int) + 211) + 40031 * (a : Int) * a + 301).natAbs < 18446744073709551616 := by
      have h1 : (a : Int) * a ≤ 1000000 * 1000000 := Int.mul_le_mul (by omega) (by omega) (by omega) (by decide)
      have h2 : 0 ≤ (a : Int) * a := Int.mul_nonneg (by omega) (by omega)
      have h3 : m1 * (2 * (a : Int) + 211) ≤ 2147483629 * 2000211 := Int.mul_le_mul (by omega) (by omega) (by omega) (by decide)
      have h4 : 0 ≤ m1 * (2 * (a : Int) + 211) := Int.mul_nonneg (by omega) (by omega)
      rw [Int.mul_assoc]
      omega
    exact ⟨_, asg_ok (bin_ok (call1_ok (bin_ok (bin_ok (bin_ok (bin_ok rfl (bin_ok (bin_ok rfl rfl (opII_ok (mulC2 c3 c4))) rfl rfl) (opII_ok (mulC2 (by omega) (by omega)))) (bin_ok (bin_ok rfl rfl (opII_ok (mulC2 c3 c4))) rfl (opII_ok (mulC2 c3 c4))) rfl) rfl rfl) rfl (opII_ok (powC_ok (by decide) (by decide) n2))) rfl) rfl (opII_ok (by decide)))⟩
  obtain ⟨m2, t7⟩ := t7
  have t8 : v__law_draw_s8 [some (.loc p), some (.int many), none, some (.int a), some (.int cell), none, some (.int m2)] U = .rt (.int (m2 / 32 % many)) U := by
    unfold v__law_draw_s8
    simp [hm]
  have st : ∀ m : SM, ∀ r, m [some (.loc p), some (.int many), none, none, none, none, none] S = r → fnM 5 m [.loc p, .int many] S = runB r := fun m r h => by rw [← h]; rfl
  have ca : ((a + 1 : Nat) : Int) = (a : Int) + 1 := by simp
  rcases t5 with ⟨r, l', b1, b2, t5⟩ | t5
  · refine ⟨r, l', b1, b2, U.set p (.lst [.loc c, .int ((a : Int) + 1), .int l']), ?_, ?_, by simp [ul], fun l hl hs => ?_⟩
    · unfold v__law_draw
      rw [st _ _ (show sSeq _ _ _ _ = _ by simp only [sSeq, t0, t1, t2, t3, t4, t5]; rfl)]; rfl
    · rw [ca]; exact List.getElem?_set_self up
    · rw [List.getElem?_set_ne (fun z => hl z.symm)]; exact uk l hl hs
  · refine ⟨m2 / 32 % many, left, (bb _).1, (bb _).2, U, ?_, ?_, ul, uk⟩
    · unfold v__law_draw
      rw [st _ _ (show sSeq _ _ _ _ = _ by simp only [sSeq, t0, t1, t2, t3, t4, t5, t6, t7, t8]; rfl)]; rfl
    · rw [ca]; exact u1
theorem draw_ok {S : Sto} {p k : Nat} {many : Int} (h : PenAt p k S) (hk : k ≤ 1000000) (hm : 0 < many) (hm2 : many < 1073741824) :
    ∃ r S', 0 ≤ r ∧ r < many ∧ v__law_draw [.loc p, .int many] S = .ok (.int r) S' ∧ PenAt p (k + 1) S' ∧ Grow p S S' := by
  obtain ⟨c, a, left, ns, h1, h2, h3, h4⟩ := h
  have hp : p < S.length := (List.getElem?_eq_some_iff.mp h1).1
  by_cases h0 : 0 < left
  · refine ⟨_, _, Int.emod_nonneg _ (by omega), Int.emod_lt_of_pos _ hm, draw_left h1 h0 hm hm2, ⟨c, a, _, ns, List.getElem?_set_self hp, ?_, h3, by omega⟩, by simp, fun l hl _ => List.getElem?_set_ne (fun z => hl z.symm)⟩
    rw [List.getElem?_set_ne (by omega)]; exact h2
  · obtain ⟨r, l', b1, b2, S', e, g1, g2, g3⟩ := draw_new h1 h0 h2 (by omega) (by omega) hm hm2
    refine ⟨r, S', b1, b2, e, ⟨c, a + 1, l', ns, g1, ?_, h3, by omega⟩, by omega, g3⟩
    rw [g3 c (by omega) (List.getElem?_eq_some_iff.mp h2).1]; exact h2
theorem pick_ok {S : Sto} {p k l : Nat} {ws : List W} (h : PenAt p k S) (hk : k ≤ 1000000) (hl : S[l]? = some (.lst ws)) (hlp : l ≠ p) (h0 : 0 < ws.length) (h1 : ws.length < 1073741824) :
    ∃ w S', w ∈ ws ∧ v__law_pick [.loc p, .loc l] S = .ok w S' ∧ PenAt p (k + 1) S' ∧ Grow p S S' := by
  obtain ⟨r, S', b1, b2, e, q, g⟩ := draw_ok (many := ws.length) h hk (by omega) (by omega)
  obtain ⟨i, hi, rfl⟩ := pick_ix b1 b2
  have hl' := g.at hl hlp
  refine ⟨ws[i], S', List.getElem_mem hi, ?_, q, g⟩
  unfold v__law_pick
  simp [hl, e, hl', ixN, hi]
end Lw
set_option Elab.async false
set_option linter.all false
set_option maxRecDepth 100000
set_option maxHeartbeats 0
set_option exponentiation.threshold 3000
namespace Lw
noncomputable section
open PySem PySem.Spec PyProof.Rows L2 Mp
def nm (n : Nat) : Str := Str.ofString (toString ((n : Nat) : Int))
theorem nm_inj {a b : Nat} (h : nm a = nm b) : a = b := by
  have e : TL.tl (nm a) = TL.tl (nm b) := by rw [h]
  unfold nm at e
  rw [TL.tl_num, TL.tl_num] at e
  exact TL.numL_inj e
theorem nm_len {n : Nat} (h : n < 1000) : (nm n).length ≤ 3 := by
  rw [TL.len_tl]; unfold nm; rw [TL.tl_num]
  exact TL.numL_len (by decide) (by simpa using h)
theorem nm_int {n : Nat} (h : n < 1000) : intText? (nm n) = some (n : Int) := by
  refine TL.int_num ?_
  have := nm_len h
  rw [TL.len_tl] at this; unfold nm at this; rw [TL.tl_num] at this
  omega
theorem intW_nm {n : Nat} (h : n < 1000) {S : Sto} : intW (.str (nm n)) S = .ok (.int (n : Int)) S := by
  have h2 : (nm n).length ≤ 640 := Nat.le_trans (nm_len h) (by decide)
  simp only [intW, nm_int h, if_pos h2]
theorem strW_int {n : Nat} (h : n < 1000) {tab : Nat → Option BM} {S : Sto} : strW tab (.int (n : Int)) S = .ok (.str (nm n)) S := by
  have h2 : ((n : Int).natAbs).log2 < 1920 := by
    have e : (n : Int).natAbs = n := by simp
    rw [e]
    by_cases z : n = 0
    · subst z; decide
    · rw [Nat.log2_lt z]
      exact Nat.lt_of_lt_of_le h (Nat.le_trans (show 1000 ≤ 2 ^ 10 by decide) (Nat.pow_le_pow_right (n := 2) (i := 10) (j := 1920) (by decide) (by decide)))
  simp only [strW, if_pos h2]
  rfl
theorem big1000 : (1000 : Nat) ≤ big := by unfold big; omega
@[simp] theorem set_last {α : Type} (S : List α) (x y : α) : (S ++ [x]).set S.length y = S ++ [y] := by
  rw [List.set_append_right _ _ (Nat.le_refl _)]; simp
/-- all places stay -/
structure Kp (S S' : Sto) : Prop where
  len : S.length ≤ S'.length
  keep : ∀ l, l < S.length → S'[l]? = S[l]?
theorem Kp.refl {S} : Kp S S := ⟨Nat.le_refl _, fun _ _ => rfl⟩
theorem Kp.trans {S S1 S2} (a : Kp S S1) (b : Kp S1 S2) : Kp S S2 := ⟨Nat.le_trans a.len b.len, fun l h => (b.keep l (Nat.lt_of_lt_of_le h a.len)).trans (a.keep l h)⟩
theorem Kp.app {S} (T : Sto) : Kp S (S ++ T) := ⟨by simp, fun l h => List.getElem?_append_left h⟩
theorem Kp.at {S S' : Sto} {l : Nat} {ob : Ob} (g : Kp S S') (h : S[l]? = some ob) : S'[l]? = some ob := by
  rw [g.keep l (List.getElem?_eq_some_iff.mp h).1]; exact h
theorem Kp.pen {p k S S'} (g : Kp S S') (h : PenAt p k S) : PenAt p k S' := by
  obtain ⟨c, a, left, ns, h1, h2, h3, h4⟩ := h
  exact ⟨c, a, left, ns, g.at h1, g.at h2, h3, h4⟩
theorem Kp.grow {p S S'} (g : Kp S S') : Grow p S S' := ⟨g.len, fun l _ h => g.keep l h⟩
theorem eq_ss {Y : W → W → M W} {a b : Str} {S : Sto} : els (datE false) Y (.str a) (.str b) S = .ok (.bl (decide (a = b))) S := by
  simp [dat_s, eqv_ss]
theorem ne_ss {Y : W → W → M W} {a b : Str} {S : Sto} : els (datE true) Y (.str a) (.str b) S = .ok (.bl (!decide (a = b))) S := by
  simp [dat_s, eqv_ss]
theorem eqv_nn {n m : Nat} : PyData.eqv (.int (n : Int)) (.int (m : Int)) = decide (n = m) := by
  show ((n : Int) == (m : Int)) = _
  by_cases h : n = m
  · subst h; simp
  · rw [decide_eq_false h, beq_eq_false_iff_ne]; omega
theorem eq_nn {Y : W → W → M W} {n m : Nat} {V : Sto} : els (datE false) Y (.int (n : Int)) (.int (m : Int)) V = .ok (.bl (decide (n = m))) V := by
  have d1 : dat V 40 (.int (n : Int)) = some (.int (n : Int)) := rfl
  have d2 : dat V 40 (.int (m : Int)) = some (.int (m : Int)) := rfl
  simp only [els, datE, d1, d2, eqv_nn]; simp
theorem tbin {ls : LSt} {op : W → W → M W} {fa fb : EM} {S S1 S2 S3 : Sto} {v u : W} {b : Bool} (h1 : fa ls S = .ok v S1) (h2 : fb ls S1 = .ok u S2) (h3 : op v u S2 = .ok (.bl b) S3) : tB1 (Mp.bin op fa fb) ls S = .ok b S3 := by
  simp only [tB1, bin_ok h1 h2 h3, Res.bind, NoX]
theorem isint_ok {S : Sto} {a : Int} : v_is_integer [.int a] S = .ok (.bl true) S := by
  simp [v_is_integer, tyNs]
theorem within_ok {S : Sto} {a lo hi : Int} : v_is_within [.int a, .int lo, .int hi] S = .ok (.bl (decide (lo ≤ a) && decide (a ≤ hi))) S := by
  unfold v_is_within v_is_within_s0 v_is_within_s1
  simp only [fnM, List.map_cons, List.map_nil, List.replicate, List.append_nil, sSeq, sIf, mOr, mNot, tst, eFn, aCons, aNil, vget, cst, defM, List.getElem?_cons_zero, List.getElem?_cons_succ, Res.bind, isint_ok, List.length_cons, List.length_nil, if_true, List.nil_append, List.cons_append, NoX, truth, Bool.not_true, toS, sNop, sRet, runB, chn]
  simp
  by_cases h : lo ≤ a <;> simp [h]
/-! ### comprehensions -/
section
variable {g : GW} {t : TM} {e : EM} {l0 : Nat} {ls : LSt}
theorem lcGo_tupF {ws : List W} (p : W → Bool) (he : ∀ w ∈ ws, ∃ ls2, g w ls = some ls2 ∧ ∀ S, t ls2 S = .ok (p w) S ∧ e ls2 S = .ok w S) :
    ∀ (m i : Nat) (S : Sto) (acc : List W), i + m = ws.length → S[l0]? = some (.lst acc) → acc.length + m ≤ big → lcGo (.tup ws) g t e l0 ls (m + 1) i S = .ok () (S.set l0 (.lst (acc ++ (ws.drop i).filter p)))
  | 0, i, S, acc, hi, hl, _ => by
    have q : ws[i]? = none := by simp; omega
    have q2 : ws.drop i = [] := List.drop_eq_nil_of_le (by omega)
    unfold lcGo
    simp only [itNext, q, q2, List.filter_nil, List.append_nil, set_same hl]
  | m + 1, i, S, acc, hi, hl, hb => by
    have h1 : i < ws.length := by omega
    have q : ws[i]? = some ws[i] := List.getElem?_eq_getElem h1
    obtain ⟨ls2, g1, g2⟩ := he ws[i] (List.getElem_mem h1)
    have hlt := (List.getElem?_eq_some_iff.mp hl).1
    have hb2 : acc.length < big := by omega
    unfold lcGo
    simp only [itNext, q, g1, (g2 S).1, (g2 S).2, NoX, Res.bind, lstOf, hl, if_pos hb2]
    rw [List.drop_eq_getElem_cons h1]
    cases hp : p ws[i] with
    | true =>
      simp only [if_true]
      rw [lcGo_tupF p he m (i + 1) (S.set l0 (.lst (acc ++ [ws[i]]))) (acc ++ [ws[i]]) (by omega) (List.getElem?_set_self hlt) (by simp; omega), List.set_set, List.filter_cons_of_pos hp, List.append_assoc]; rfl
    | false =>
      simp only [Bool.false_eq_true, if_false]
      rw [lcGo_tupF p he m (i + 1) S acc (by omega) hl (by omega), List.filter_cons_of_neg (by simp [hp])]
theorem lc2_rt {fi1 : LSt → M ItW} {g1 : GW} {n : Nat} {ws : List W} {vs1 : List Nat} (p : Nat → W → Bool) (hw : ws.length ≤ 1000)
    (ho : ∀ i, i < n → ∃ ls2, g (.int (0 + (i : Int))) ls = some ls2 ∧ (∀ S, fi1 ls2 S = .ok (.tup ws) S) ∧ ∀ w ∈ ws, ∃ ls3, g1 w (wipeL ls2 vs1) = some ls3 ∧ ∀ S, t ls3 S = .ok (p i w) S ∧ e ls3 S = .ok w S) :
    ∀ (m i : Nat) (S : Sto) (acc : List W), i + m = n → S[l0]? = some (.lst acc) → acc.length + m * ws.length ≤ 100000 → lc2Go (.rng 0 n) g tTrue fi1 g1 t e l0 ls vs1 (m + 1) i S = .ok () (S.set l0 (.lst (acc ++ (List.range' i m).flatMap fun k => ws.filter (p k))))
  | 0, i, S, acc, hi, hl, _ => by
    have : ¬ i < n := by omega
    unfold lc2Go
    simp only [itNext, if_neg this, List.range'_zero, List.flatMap_nil, List.append_nil, set_same hl]
  | m + 1, i, S, acc, hi, hl, hb => by
    have h1 : i < n := by omega
    have bN := bigN
    obtain ⟨ls2, q1, q2, q3⟩ := ho i h1
    have hlt := (List.getElem?_eq_some_iff.mp hl).1
    rw [Nat.succ_mul] at hb
    have inn := lcGo_tupF (g := g1) (t := t) (e := e) (l0 := l0) (ls := wipeL ls2 vs1) (p i) q3 ws.length 0 S acc (Nat.zero_add _) hl (by omega)
    rw [List.drop_zero] at inn
    have lf : (ws.filter (p i)).length ≤ ws.length := List.length_filter_le _ _
    unfold lc2Go
    simp only [itNext, if_pos h1, q1, tTrue, NoX, Res.bind, if_true, q2, itFuel, inn]
    rw [lc2_rt p hw ho m (i + 1) (S.set l0 (.lst (acc ++ ws.filter (p i)))) (acc ++ ws.filter (p i)) (by omega) (List.getElem?_set_self hlt) (by simp; omega), List.set_set, List.range'_succ, List.flatMap_cons, List.append_assoc]
end
end
end Lw
set_option Elab.async false
set_option linter.all false
set_option maxRecDepth 100000
set_option maxHeartbeats 0
namespace Lw
noncomputable section
open PySem PySem.Spec PyProof.Rows L2 Mp
/-! ### faults -/
inductive Fk : W → Nat → Prop where
  | l : Fk (.ins 5 []) 0
  | d : Fk (.ins 6 []) 1
  | o {b : Nat} (h : 1 ≤ b ∧ b ≤ 2) : Fk (.ins 7 [.int (b : Int)]) 2
def ord (w : W) : Nat := match w with
  | .ins 5 _ => 0
  | .ins 6 _ => 1
  | _ => 2
theorem Fk.ord {w : W} {n : Nat} (h : Fk w n) : Lw.ord w = n := by cases h <;> rfl
theorem Fk.lt {w : W} {n : Nat} (h : Fk w n) : n < 3 := by cases h <;> decide
section
variable {S : Sto} {ls : LSt}
theorem new_l : eNew0 frzO 5 0 ls S = .ok (.ins 5 []) (S ++ [.dead]) := by simp
theorem new_d : eNew0 frzO 6 0 ls S = .ok (.ins 6 []) (S ++ [.dead]) := by simp
theorem new_o {b : Nat} {f : AM} {V : Sto} (hf : f ls V = .ok [.int (b : Int)] S) (h : 1 ≤ b ∧ b ≤ 2) : eNew frzO 7 1 (defM 2 [] v_Overtakes___init__) f ls V = .ok (.ins 7 [.int (b : Int)]) (S ++ [.dead]) := by
  have h1 : (1 : Int) ≤ (b : Int) := by omega
  have h2 : (b : Int) ≤ 2 := by omega
  have i : v_Overtakes___init__ [.loc S.length, .int (b : Int)] (S ++ [.obj 7 []]) = .ok .non (S ++ [.obj 7 [.int (b : Int)]]) := by
    have w := within_ok (S := S ++ [.obj 7 []]) (a := (b : Int)) (lo := 1) (hi := 2)
    rw [decide_eq_true h1, decide_eq_true h2] at w
    have t0 : v_Overtakes___init___s0 [some (.loc S.length), some (.int (b : Int))] (S ++ [.obj 7 []]) = .nx [some (.loc S.length), some (.int (b : Int))] (S ++ [.obj 7 []]) :=
      if_n (not_ok (b := true) (tst_ok (fn_ok (a_c rfl (a_c rfl (a_1 rfl))) rfl w)))
    have t1 : v_Overtakes___init___s1 [some (.loc S.length), some (.int (b : Int))] (S ++ [.obj 7 []]) = .nx [some (.loc S.length), some (.int (b : Int))] (S ++ [.obj 7 [.int (b : Int)]]) := by
      unfold v_Overtakes___init___s1
      simp [setV, st8_by]
    exact congrArg runB (seq_nx t0 t1)
  simp [hf, i]
theorem kind_ok {w : W} {n : Nat} (h : Fk w n) : v_is_kind [w] S = .ok (.bl true) S := by
  unfold v_is_kind
  cases h <;> simp [isiK, anyK, xkK, kdW, clsSub, tyNs, objV] <;> rfl
theorem ord_ok {w : W} {n : Nat} {f : EM} (h : Fk w n) (hf : f ls S = .ok w S) : eCo co11_ORDER f ls S = .ok (.int (n : Int)) S := by
  cases h <;> simp [hf, co11_ORDER]
def srt (xs : List W) : List W := (List.range' 0 3).flatMap fun k => xs.filter fun x => decide (ord x = k)
theorem nodup_map : ∀ {l : List Nat}, l.Nodup → (l.map fun n : Nat => (n : Int)).Nodup
  | [], _ => .nil
  | a :: l, h => by
    rw [List.nodup_cons] at h
    rw [List.map_cons, List.nodup_cons]
    refine ⟨fun z => ?_, nodup_map h.2⟩
    obtain ⟨y, hy, e⟩ := List.mem_map.mp z
    exact h.1 (by have : y = a := by omega
                  exact this ▸ hy)
def cntB (a b c : Nat) : Bool := (decide (cnt1 [(a : Int)] = 1) && (if a = b then decide (cnt1 [(a : Int), (b : Int)] = 1) else decide (cnt1 [(a : Int), (b : Int)] = 2))) && (!decide ([a, b, c].Nodup) || decide (cnt1 [(a : Int), (b : Int), (c : Int)] = 3))
theorem cntB_ok : ((List.range 3).all fun a => (List.range 3).all fun b => (List.range 3).all fun c => cntB a b c) = true := by decide +kernel
theorem cnt_all (a : Nat) (ha : a < 3) (b : Nat) (hb : b < 3) (c : Nat) (hc : c < 3) : (cnt1 [(a : Int)] = 1 ∧ (a ≠ b → cnt1 [(a : Int), (b : Int)] = 2) ∧ (a = b → cnt1 [(a : Int), (b : Int)] = 1)) ∧ ([a, b, c].Nodup → cnt1 [(a : Int), (b : Int), (c : Int)] = 3) := by
  have h := List.all_eq_true.mp (List.all_eq_true.mp (List.all_eq_true.mp cntB_ok a (List.mem_range.mpr ha)) b (List.mem_range.mpr hb)) c (List.mem_range.mpr hc)
  unfold cntB at h
  simp only [Bool.and_eq_true, decide_eq_true_eq, Bool.or_eq_true, Bool.not_eq_true', decide_eq_false_iff_not] at h
  obtain ⟨⟨h1, h2⟩, h3⟩ := h
  refine ⟨⟨h1, fun z => ?_, fun z => ?_⟩, fun z => h3.resolve_left fun q => q z⟩
  · rw [if_neg z] at h2; simpa using h2
  · rw [if_pos z] at h2; simpa using h2
theorem cnt_nd (l : List Nat) (h : l.length ≤ 3) (h3 : ∀ x ∈ l, x < 3) (hn : l.Nodup) : cnt1 (l.map fun n : Nat => (n : Int)) = l.length := by
  match l, h with
  | [], _ => decide +kernel
  | [a], _ => exact (cnt_all a (h3 a (by simp)) 0 (by decide) 0 (by decide)).1.1
  | [a, b], _ => exact (cnt_all a (h3 a (by simp)) b (h3 b (by simp)) 0 (by decide)).1.2.1 (by simpa using hn)
  | [a, b, c], _ => exact (cnt_all a (h3 a (by simp)) b (h3 b (by simp)) c (h3 c (by simp))).2 hn
  | _ :: _ :: _ :: _ :: _, h => simp at h
theorem cnt_tw {a : Nat} (h : a < 3) : cnt1 ([a, a].map fun n : Nat => (n : Int)) = 1 := (cnt_all a h a h 0 (by decide)).1.2.2 rfl
theorem told_ok {xs : List W} (hx : ∀ x ∈ xs, ∃ n, Fk x n) (hn : (xs.map ord).Nodup) (hl : xs.length ≤ 3) : ∃ S', v_told_faults [.tup xs] S = .ok (.tup (srt xs)) S' ∧ Kp S S' := by
  have bN := bigN
  have ho : ∀ x ∈ xs, Fk x (ord x) := fun x h => by
    obtain ⟨n, f⟩ := hx x h
    rw [f.ord]; exact f
  obtain ⟨L, hL⟩ : ∃ L : LSt, L = [some (.tup xs), none, none] := ⟨_, rfl⟩
  have v0 : ∀ U, vget 0 L U = .ok (.tup xs) U := fun U => by rw [hL]; rfl
  have w1 : ∀ w U, vget 1 ((wipeL L [1]).set 1 (some w)) U = .ok w U := fun w U => by rw [hL]; rfl
  -- all kinds
  obtain ⟨S1, hS1⟩ : ∃ S1, S1 = S ++ [Ob.lst (xs.map fun _ => W.bl true)] := ⟨_, rfl⟩
  have k1 : Kp S S1 := by rw [hS1]; exact Kp.app _
  have c1 : eLc (iAny (vget 0)) (cN 1) tTrue (eFn (defM 1 [] v_is_kind) (aCons (vget 1) aNil)) [1] L S = .ok (.loc S.length) S1 := by
    rw [hS1]
    exact eLc_sq (v0 S) (.inl rfl) (by simp) (by omega) fun i w y h1 h2 => by
      rw [List.getElem?_map, h1] at h2
      cases h2
      exact ⟨_, rfl, fun U => fn_ok (a_1 (w1 w U)) rfl (kind_ok (ho w (List.mem_of_getElem? h1)))⟩
  have g1 : S1[S.length]? = some (.lst (xs.map fun _ => W.bl true)) := by rw [hS1]; simp
  have a1 : allW false (.loc S.length) S1 = .ok (.bl true) S1 := by
    have e : (xs.map fun _ => W.bl true) = (xs.map fun _ => true).map W.bl := by rw [List.map_map]; rfl
    have q : (lstOf S.length S1).bind asBls = some (xs.map fun _ => true) := by
      simp only [lstOf, g1, Option.bind_some]
      rw [e, asBls_map]
    simp only [allW, q]
    simp
  have t0 : v_told_faults_s0 L S = .nx L S1 := if_n (not_ok (b := true) (tst_ok (call1_ok c1 a1)))
  -- each once
  obtain ⟨S2, hS2⟩ : ∃ S2, S2 = S1 ++ [Ob.lst ((xs.map ord).map fun n : Nat => W.int (n : Int))] := ⟨_, rfl⟩
  have k2 : Kp S1 S2 := by rw [hS2]; exact Kp.app _
  have c2 : eLc (iAny (vget 0)) (cN 1) tTrue (eCo co11_ORDER (vget 1)) [1] L S1 = .ok (.loc S1.length) S2 := by
    rw [hS2]
    exact eLc_sq (v0 S1) (.inl rfl) (by simp) (by omega) fun i w y h1 h2 => by
      rw [List.getElem?_map, List.getElem?_map, h1] at h2
      cases h2
      exact ⟨_, rfl, fun U => ord_ok (ho w (List.mem_of_getElem? h1)) (w1 w U)⟩
  have g2 : S2[S1.length]? = some (.lst ((xs.map ord).map fun n : Nat => W.int (n : Int))) := by rw [hS2]; simp
  have ai : ∀ l : List Nat, asInts (l.map fun n : Nat => W.int (n : Int)) = some (l.map fun n : Nat => (n : Int)) := fun l => by
    induction l with
    | nil => rfl
    | cons a l ih => simp only [List.map_cons, asInts, ih, Option.map_some]
  have e2 : eLsA (eLc (iAny (vget 0)) (cN 1) tTrue (eCo co11_ORDER (vget 1)) [1]) L S1 = .ok (.int (xs.length : Int)) S2 := by
    have hb : ((xs.map ord).map fun n : Nat => (n : Int)).length ≤ 4000 := by simp; omega
    have hc := cnt_nd (xs.map ord) (by simpa using hl) (fun x hx => by
      obtain ⟨y, hy, rfl⟩ := List.mem_map.mp hx
      exact (ho y hy).lt) hn
    simp only [eLsA, c2, Res.bind, lstOf, g2, ai, if_pos hb, hc]
    simp
  have le : eCall (b1 lenW) (aCons (vget 0) aNil) L S2 = .ok (.int (xs.length : Int)) S2 := call1_ok (v0 S2) rfl
  have lt : els ltI ltS (.int (xs.length : Int)) (.int (xs.length : Int)) S2 = .ok (.bl false) S2 := by simp
  have t1 : v_told_faults_s1 L S1 = .nx L S2 := if_n (tbin e2 le lt)
  -- in order
  have hl0 : (S2 ++ [Ob.lst []])[S2.length]? = some (Ob.lst []) := by simp
  have go := lc2_rt (g := cN 2) (t := tB1 (Mp.bin (els (datE false) (els (eqO false 9 clsSub du12__eq__) (eqR 9 du12__eq__))) (eCo co11_ORDER (vget 1)) (vget 2))) (e := vget 1) (l0 := S2.length) (ls := wipeL L [2, 1]) (fi1 := iAny (vget 0)) (g1 := cN 1) (n := 3) (ws := xs) (vs1 := [1]) (fun k x => decide (ord x = k)) (by omega) (fun i hi => by
    refine ⟨_, rfl, fun U => by rw [hL]; rfl, fun w hw => ⟨_, rfl, fun U => ⟨?_, by rw [hL]; rfl⟩⟩⟩
    have a2 : vget 1 ((wipeL ((wipeL L [2, 1]).set 2 (some (.int (0 + (i : Int))))) [1]).set 1 (some w)) U = .ok w U := by rw [hL]; rfl
    have a3 : vget 2 ((wipeL ((wipeL L [2, 1]).set 2 (some (.int (0 + (i : Int))))) [1]).set 1 (some w)) U = .ok (.int (i : Int)) U := by
      rw [hL]
      show Res.ok (W.int (0 + (i : Int))) U = _
      rw [Int.zero_add]
    exact tbin (ord_ok (ho w hw) a2) a3 eq_nn) 3 0 (S2 ++ [Ob.lst []]) [] rfl hl0 (by simp; omega)
  obtain ⟨S3, hS3⟩ : ∃ S3, S3 = S2 ++ [Ob.lst (srt xs)] := ⟨_, rfl⟩
  have e3 : (S2 ++ [Ob.lst []]).set S2.length (Ob.lst ([] ++ (List.range' 0 3).flatMap fun k => xs.filter fun x => decide (ord x = k))) = S3 := by
    rw [set_last, hS3]; rfl
  rw [e3] at go
  have i0 : iRg rg1 (aCons (cst (.int 3)) aNil) L S2 = .ok (.rng 0 3) S2 := rfl
  have c3 : eLc2 (iRg rg1 (aCons (cst (.int 3)) aNil)) (cN 2) tTrue (iAny (vget 0)) (cN 1) (tB1 (Mp.bin (els (datE false) (els (eqO false 9 clsSub du12__eq__) (eqR 9 du12__eq__))) (eCo co11_ORDER (vget 1)) (vget 2))) (vget 1) [2, 1] [1] L S2 = .ok (.loc S2.length) S3 := by
    simp only [eLc2, i0, Res.bind, itFuel, go]
  have g3 : S3[S2.length]? = some (.lst (srt xs)) := by rw [hS3]; simp
  have tp : tupleW (.loc S2.length) S3 = .ok (.tup (srt xs)) S3 := by simp only [tupleW, g3]
  have t2 : v_told_faults_s2 L S2 = .rt (.tup (srt xs)) S3 := ret_ok (call1_ok c3 tp)
  refine ⟨S3, ?_, (k1.trans k2).trans (by rw [hS3]; exact Kp.app _)⟩
  rw [hL] at t0 t1 t2
  exact congrArg runB (seq_nx t0 (seq_nx t1 t2))
/-- a channel made -/
theorem new_chan {c : Nat} {xs : List W} {f : AM} {V : Sto} (hc : 1 ≤ c ∧ c ≤ 3) (hf : f ls V = .ok (.int (c : Int) :: xs) S) (hx : ∀ x ∈ xs, ∃ n, Fk x n) (hn : (xs.map ord).Nodup) (hl : xs.length ≤ 3) : ∃ S', eNew frzO 8 2 (defS 2 v_Channel___init__) f ls V = .ok (.ins 8 [.int (c : Int), .tup (srt xs)]) S' ∧ Kp S S' := by
  obtain ⟨S0, hS0⟩ : ∃ S0, S0 = S ++ [Ob.obj 8 []] := ⟨_, rfl⟩
  have k0 : Kp S S0 := by rw [hS0]; exact Kp.app _
  obtain ⟨L, hL⟩ : ∃ L : LSt, L = [some (.loc S.length), some (.int (c : Int)), some (.tup xs)] := ⟨_, rfl⟩
  have v0 : ∀ U, vget 0 L U = .ok (.loc S.length) U := fun U => by rw [hL]; rfl
  have v1 : ∀ U, vget 1 L U = .ok (.int (c : Int)) U := fun U => by rw [hL]; rfl
  have v2 : ∀ U, vget 2 L U = .ok (.tup xs) U := fun U => by rw [hL]; rfl
  have h1 : (1 : Int) ≤ (c : Int) := by omega
  have h2 : (c : Int) ≤ 3 := by omega
  have w := within_ok (S := S0) (a := (c : Int)) (lo := 1) (hi := 3)
  rw [decide_eq_true h1, decide_eq_true h2] at w
  have cv : eCv 8 (W.int 3) (cst (.glo 8)) L S0 = .ok (.int 3) S0 := by simp
  have t0 : v_Channel___init___s0 L S0 = .nx L S0 := if_n (not_ok (b := true) (tst_ok (fn_ok (a_c (v1 S0) (a_c rfl (a_1 cv))) rfl w)))
  have o0 : S0[S.length]? = some (.obj 8 []) := by rw [hS0]; simp
  obtain ⟨S1, hS1⟩ : ∃ S1, S1 = S ++ [Ob.obj 8 [W.int (c : Int)]] := ⟨_, rfl⟩
  have t1 : v_Channel___init___s1 L S0 = .nx L S1 := by
    unfold v_Channel___init___s1
    simp only [Mp.sFld, v1, toS, v0, setV, o0, st13_capacity]
    rw [hS0, hS1]
    simp
  obtain ⟨S2, e2, k2⟩ := told_ok (S := S1) hx hn hl
  have o1 : S1[S.length]? = some (.obj 8 [W.int (c : Int)]) := by rw [hS1]; simp
  have o2 := k2.at o1
  have lt2 : S.length < S2.length := (List.getElem?_eq_some_iff.mp o2).1
  have fe : eFn (defM 1 [] v_told_faults) (aCons (vget 2) aNil) L S1 = .ok (.tup (srt xs)) S2 := fn_ok (a_1 (v2 S1)) rfl e2
  obtain ⟨S3, hS3⟩ : ∃ S3, S3 = S2.set S.length (Ob.obj 8 [W.int (c : Int), .tup (srt xs)]) := ⟨_, rfl⟩
  have t2 : v_Channel___init___s2 L S1 = .nx L S3 := by
    unfold v_Channel___init___s2
    simp only [Mp.sFld, fe, toS, v0, setV, o2, st14_faults]
    rw [hS3]
    simp
  have o3 : S3[S.length]? = some (.obj 8 [W.int (c : Int), .tup (srt xs)]) := by rw [hS3]; exact List.getElem?_set_self lt2
  have run : defS 2 v_Channel___init__ (.loc S.length :: .int (c : Int) :: xs) S0 = .ok .non S3 := by
    have hcond : 2 ≤ (W.loc S.length :: W.int (c : Int) :: xs).length ∧ (W.loc S.length :: W.int (c : Int) :: xs).length ≤ 2 + 1000 := by simp; omega
    simp only [defS, if_pos hcond]
    show v_Channel___init__ [.loc S.length, .int (c : Int), .tup xs] S0 = _
    rw [hL] at t0 t1 t2
    exact congrArg runB (seq_nx t0 (seq_nx t1 t2))
  refine ⟨S3.set S.length .dead, ?_, ?_⟩
  · simp only [eNew, hf, Res.bind]
    rw [← hS0]
    simp only [run]
    simp only [frzO, o3]
    simp
  · have h01 : S1.length = S.length + 1 := by rw [hS1]; simp
    have hl2 := k2.len
    refine ⟨by rw [hS3]; simp; omega, fun p hp => ?_⟩
    rw [List.getElem?_set_ne (by omega), hS3, List.getElem?_set_ne (by omega), k2.keep p (by omega), hS1, List.getElem?_append_left hp]
theorem eLc_at {fe : EM} {g : GW} {e : EM} {vs : List Nat} {ls : LSt} {S S1 : Sto} {v : W} {ws ys : List W} (hf : fe ls S = .ok v S1) (h : Sq v ws S1) (hl : ws.length = ys.length) (hb : ws.length ≤ 1000000)
    (he : ∀ (i : Nat) (w y : W), ws[i]? = some w → ys[i]? = some y → ∃ ls2, g w (wipeL ls vs) = some ls2 ∧ ∀ U, Kp S1 U → e ls2 U = .ok y U) : eLc (iAny fe) g tTrue e vs ls S = .ok (.loc S1.length) (S1 ++ [.lst ys]) := by
  have hl0 : (S1 ++ [Ob.lst []])[S1.length]? = some (Ob.lst []) := by simp
  have e3 : (S1 ++ [Ob.lst []]).set S1.length (Ob.lst ([] ++ ys.drop 0)) = S1 ++ [.lst ys] := by
    rw [List.set_append_right _ _ (Nat.le_refl _)]
    simp
  have bN := bigN
  have ks : ∀ (S : Sto) (acc : List W), Kp S1 S → Kp S1 (S.set S1.length (.lst acc)) := fun S acc k => ⟨by rw [List.length_set]; exact k.len, fun l hl => by rw [List.getElem?_set_ne (by omega)]; exact k.keep l hl⟩
  rcases h with rfl | ⟨l, rfl, hl2⟩
  · have i0 : iAny fe ls S = .ok (.tup ws) S1 := by simp only [iAny, hf, Res.bind, walkW, NoX]
    have k := lcGo_ys (it := .tup ws) (g := g) (e := e) (l0 := S1.length) (ls := wipeL ls vs) (Kp S1) (fun _ _ _ => rfl) ks hl he ws.length 0 (S1 ++ [.lst []]) [] (Nat.zero_add _) (Kp.app _) hl0 (by simp only [List.length_nil]; omega)
    rw [e3] at k
    simp only [eLc, i0, Res.bind, itFuel, k]
  · have hlt := (List.getElem?_eq_some_iff.mp hl2).1
    have i0 : iAny fe ls S = .ok (.lst l) S1 := by simp only [iAny, hf, Res.bind, walkW, hl2, NoX]
    have k := lcGo_ys (it := .lst l) (g := g) (e := e) (l0 := S1.length) (ls := wipeL ls vs) (Kp S1) (fun i S h => by simp only [itNext, h.at hl2]) ks hl he ws.length 0 (S1 ++ [.lst []]) [] (Nat.zero_add _) (Kp.app _) hl0 (by simp only [List.length_nil]; omega)
    rw [e3] at k
    simp only [eLc, i0, Res.bind, itFuel, hl2, k]
/-- something that is no fault -/
theorem told_no {xs : List W} {bs : List Bool} (hl : xs.length = bs.length) (hb : xs.length ≤ 1000) (hk : ∀ (i : Nat) w b, xs[i]? = some w → bs[i]? = some b → ∀ U, Kp S U → v_is_kind [w] U = .ok (.bl b) U) (hf : bs.all id = false) : ∃ S', v_told_faults [.tup xs] S = .exc 1 [.str "faults"] S' ∧ Kp S S' := by
  have bN := bigN
  obtain ⟨L, hL⟩ : ∃ L : LSt, L = [some (.tup xs), none, none] := ⟨_, rfl⟩
  have v0 : ∀ U, vget 0 L U = .ok (.tup xs) U := fun U => by rw [hL]; rfl
  have w1 : ∀ w U, vget 1 ((wipeL L [1]).set 1 (some w)) U = .ok w U := fun w U => by rw [hL]; rfl
  obtain ⟨S1, hS1⟩ : ∃ S1, S1 = S ++ [Ob.lst (bs.map W.bl)] := ⟨_, rfl⟩
  have c1 : eLc (iAny (vget 0)) (cN 1) tTrue (eFn (defM 1 [] v_is_kind) (aCons (vget 1) aNil)) [1] L S = .ok (.loc S.length) S1 := by
    rw [hS1]
    exact eLc_at (v0 S) (.inl rfl) (by simp [hl]) (by omega) fun i w y h1 h2 => by
      rw [List.getElem?_map] at h2
      cases q : bs[i]? with
      | none => rw [q] at h2; cases h2
      | some b =>
        rw [q] at h2; cases h2
        exact ⟨_, rfl, fun U k => fn_ok (a_1 (w1 w U)) rfl (hk i w b h1 q U k)⟩
  have g1 : S1[S.length]? = some (.lst (bs.map W.bl)) := by rw [hS1]; simp
  have a1 : allW false (.loc S.length) S1 = .ok (.bl false) S1 := by
    have q : (lstOf S.length S1).bind asBls = some bs := by
      simp only [lstOf, g1, Option.bind_some]
      rw [asBls_map]
    simp only [allW, q]
    simp [hf]
  have t0 : v_told_faults_s0 L S = .exc 1 [.str "faults"] L S1 := by
    refine if_t (not_ok (b := false) (tst_ok (call1_ok c1 a1))) ?_
    rfl
  refine ⟨S1, ?_, by rw [hS1]; exact Kp.app _⟩
  rw [hL] at t0
  simp only [v_told_faults, fnM, List.map_cons, List.map_nil, List.replicate, List.append_nil, List.cons_append, List.nil_append, sSeq, t0, runB]
/-- one of them twice -/
theorem told_tw {x y : W} {n : Nat} (hx : Fk x n) (hy : Fk y n) : ∃ S', v_told_faults [.tup [x, y]] S = .exc 1 [.str "faults"] S' ∧ Kp S S' := by
  have bN := bigN
  obtain ⟨xs, hxs⟩ : ∃ xs, xs = [x, y] := ⟨_, rfl⟩
  have ho : ∀ z ∈ xs, Fk z n := fun z hz => by
    rw [hxs] at hz
    simp only [List.mem_cons, List.not_mem_nil, or_false] at hz
    rcases hz with rfl | rfl
    · exact hx
    · exact hy
  have hl2 : xs.length = 2 := by rw [hxs]; rfl
  obtain ⟨L, hL⟩ : ∃ L : LSt, L = [some (.tup xs), none, none] := ⟨_, rfl⟩
  have v0 : ∀ U, vget 0 L U = .ok (.tup xs) U := fun U => by rw [hL]; rfl
  have w1 : ∀ w U, vget 1 ((wipeL L [1]).set 1 (some w)) U = .ok w U := fun w U => by rw [hL]; rfl
  obtain ⟨S1, hS1⟩ : ∃ S1, S1 = S ++ [Ob.lst (xs.map fun _ => W.bl true)] := ⟨_, rfl⟩
  have k1 : Kp S S1 := by rw [hS1]; exact Kp.app _
  have c1 : eLc (iAny (vget 0)) (cN 1) tTrue (eFn (defM 1 [] v_is_kind) (aCons (vget 1) aNil)) [1] L S = .ok (.loc S.length) S1 := by
    rw [hS1]
    exact eLc_sq (v0 S) (.inl rfl) (by simp) (by omega) fun i w y h1 h2 => by
      rw [List.getElem?_map, h1] at h2
      cases h2
      exact ⟨_, rfl, fun U => fn_ok (a_1 (w1 w U)) rfl (kind_ok (ho w (List.mem_of_getElem? h1)))⟩
  have g1 : S1[S.length]? = some (.lst (xs.map fun _ => W.bl true)) := by rw [hS1]; simp
  have a1 : allW false (.loc S.length) S1 = .ok (.bl true) S1 := by
    have e : (xs.map fun _ => W.bl true) = (xs.map fun _ => true).map W.bl := by rw [List.map_map]; rfl
    have q : (lstOf S.length S1).bind asBls = some (xs.map fun _ => true) := by
      simp only [lstOf, g1, Option.bind_some]
      rw [e, asBls_map]
    simp only [allW, q]
    simp
  have t0 : v_told_faults_s0 L S = .nx L S1 := if_n (not_ok (b := true) (tst_ok (call1_ok c1 a1)))
  obtain ⟨S2, hS2⟩ : ∃ S2, S2 = S1 ++ [Ob.lst [W.int (n : Int), W.int (n : Int)]] := ⟨_, rfl⟩
  have k2 : Kp S1 S2 := by rw [hS2]; exact Kp.app _
  have hys : [W.int (n : Int), W.int (n : Int)] = xs.map fun _ => W.int (n : Int) := by rw [hxs]; rfl
  have c2 : eLc (iAny (vget 0)) (cN 1) tTrue (eCo co11_ORDER (vget 1)) [1] L S1 = .ok (.loc S1.length) S2 := by
    rw [hS2, hys]
    exact eLc_sq (v0 S1) (.inl rfl) (by simp) (by omega) fun i w y h1 h2 => by
      rw [List.getElem?_map, h1] at h2
      cases h2
      exact ⟨_, rfl, fun U => ord_ok (ho w (List.mem_of_getElem? h1)) (w1 w U)⟩
  have g2 : S2[S1.length]? = some (.lst [W.int (n : Int), W.int (n : Int)]) := by rw [hS2]; simp
  have e2 : eLsA (eLc (iAny (vget 0)) (cN 1) tTrue (eCo co11_ORDER (vget 1)) [1]) L S1 = .ok (.int ((1 : Nat) : Int)) S2 := by
    have hc : cnt1 [(n : Int), (n : Int)] = 1 := cnt_tw hx.lt
    simp only [eLsA, c2, Res.bind, lstOf, g2, asInts, Option.map_some, hc]
    simp
  have le : eCall (b1 lenW) (aCons (vget 0) aNil) L S2 = .ok (.int ((2 : Nat) : Int)) S2 := call1_ok (v0 S2) (by rw [← hl2]; rfl)
  have lt : els ltI ltS (.int ((1 : Nat) : Int)) (.int ((2 : Nat) : Int)) S2 = .ok (.bl true) S2 := by simp
  have t1 : v_told_faults_s1 L S1 = .exc 1 [.str "faults"] L S2 := by
    refine if_t (tbin e2 le lt) ?_
    rfl
  refine ⟨S2, ?_, k1.trans k2⟩
  rw [hL, hxs] at t0 t1
  simp only [v_told_faults, fnM, List.map_cons, List.map_nil, List.replicate, List.append_nil, List.cons_append, List.nil_append, sSeq, t0, t1, runB]
/-- no capacity -/
theorem chan_cap {w : W} {xs : List W} {f : AM} {V : Sto} (hf : f ls V = .ok (w :: xs) S) (hw : ∀ U, Kp S U → v_is_within [w, .int 1, .int 3] U = .ok (.bl false) U) (hl : xs.length ≤ 3) : ∃ S', eNew frzO 8 2 (defS 2 v_Channel___init__) f ls V = .exc 1 [.str "capacity"] S' ∧ Kp S S' := by
  obtain ⟨S0, hS0⟩ : ∃ S0, S0 = S ++ [Ob.obj 8 []] := ⟨_, rfl⟩
  have k0 : Kp S S0 := by rw [hS0]; exact Kp.app _
  obtain ⟨L, hL⟩ : ∃ L : LSt, L = [some (.loc S.length), some w, some (.tup xs)] := ⟨_, rfl⟩
  have v1 : ∀ U, vget 1 L U = .ok w U := fun U => by rw [hL]; rfl
  have cv : eCv 8 (W.int 3) (cst (.glo 8)) L S0 = .ok (.int 3) S0 := by simp
  have t0 : v_Channel___init___s0 L S0 = .exc 1 [.str "capacity"] L S0 := by
    refine if_t (not_ok (b := false) (tst_ok (fn_ok (a_c (v1 S0) (a_c rfl (a_1 cv))) rfl (hw S0 k0)))) ?_
    rfl
  have run : defS 2 v_Channel___init__ (.loc S.length :: w :: xs) S0 = .exc 1 [.str "capacity"] S0 := by
    have hcond : 2 ≤ (W.loc S.length :: w :: xs).length ∧ (W.loc S.length :: w :: xs).length ≤ 2 + 1000 := by simp; omega
    simp only [defS, if_pos hcond]
    show v_Channel___init__ [.loc S.length, w, .tup xs] S0 = _
    rw [hL] at t0
    simp only [v_Channel___init__, fnM, List.map_cons, List.map_nil, List.replicate, List.append_nil, sSeq, t0, runB]
  refine ⟨S0, ?_, k0⟩
  simp only [eNew, hf, Res.bind]
  rw [← hS0]
  simp only [run]
/-- no faults -/
theorem chan_fau {c : Nat} {xs : List W} {f : AM} {V : Sto} (hc : 1 ≤ c ∧ c ≤ 3) (hf : f ls V = .ok (.int (c : Int) :: xs) S) (hl : xs.length ≤ 3) (hx : ∀ U, Kp S U → ∃ U', v_told_faults [.tup xs] U = .exc 1 [.str "faults"] U' ∧ Kp U U') : ∃ S', eNew frzO 8 2 (defS 2 v_Channel___init__) f ls V = .exc 1 [.str "faults"] S' ∧ Kp S S' := by
  obtain ⟨S0, hS0⟩ : ∃ S0, S0 = S ++ [Ob.obj 8 []] := ⟨_, rfl⟩
  have k0 : Kp S S0 := by rw [hS0]; exact Kp.app _
  obtain ⟨L, hL⟩ : ∃ L : LSt, L = [some (.loc S.length), some (.int (c : Int)), some (.tup xs)] := ⟨_, rfl⟩
  have v0 : ∀ U, vget 0 L U = .ok (.loc S.length) U := fun U => by rw [hL]; rfl
  have v1 : ∀ U, vget 1 L U = .ok (.int (c : Int)) U := fun U => by rw [hL]; rfl
  have v2 : ∀ U, vget 2 L U = .ok (.tup xs) U := fun U => by rw [hL]; rfl
  have h1 : (1 : Int) ≤ (c : Int) := by omega
  have h2 : (c : Int) ≤ 3 := by omega
  have w := within_ok (S := S0) (a := (c : Int)) (lo := 1) (hi := 3)
  rw [decide_eq_true h1, decide_eq_true h2] at w
  have cv : eCv 8 (W.int 3) (cst (.glo 8)) L S0 = .ok (.int 3) S0 := by simp
  have t0 : v_Channel___init___s0 L S0 = .nx L S0 := if_n (not_ok (b := true) (tst_ok (fn_ok (a_c (v1 S0) (a_c rfl (a_1 cv))) rfl w)))
  have o0 : S0[S.length]? = some (.obj 8 []) := by rw [hS0]; simp
  obtain ⟨S1, hS1⟩ : ∃ S1, S1 = S ++ [Ob.obj 8 [W.int (c : Int)]] := ⟨_, rfl⟩
  have k1 : Kp S S1 := by rw [hS1]; exact Kp.app _
  have t1 : v_Channel___init___s1 L S0 = .nx L S1 := by
    unfold v_Channel___init___s1
    simp only [Mp.sFld, v1, toS, v0, setV, o0, st13_capacity]
    rw [hS0, hS1]
    simp
  obtain ⟨S2, e2, k2⟩ := hx S1 k1
  have fe : eFn (defM 1 [] v_told_faults) (aCons (vget 2) aNil) L S1 = .exc 1 [.str "faults"] S2 := fn_ok (a_1 (v2 S1)) rfl e2
  have t2 : v_Channel___init___s2 L S1 = .exc 1 [.str "faults"] L S2 := by
    unfold v_Channel___init___s2
    simp only [Mp.sFld, fe, toS]
  have run : defS 2 v_Channel___init__ (.loc S.length :: .int (c : Int) :: xs) S0 = .exc 1 [.str "faults"] S2 := by
    have hcond : 2 ≤ (W.loc S.length :: W.int (c : Int) :: xs).length ∧ (W.loc S.length :: W.int (c : Int) :: xs).length ≤ 2 + 1000 := by simp; omega
    simp only [defS, if_pos hcond]
    show v_Channel___init__ [.loc S.length, .int (c : Int), .tup xs] S0 = _
    rw [hL] at t0 t1 t2
    simp only [v_Channel___init__, fnM, List.map_cons, List.map_nil, List.replicate, List.append_nil, sSeq, t0, t1, t2, runB]
  refine ⟨S2, ?_, k1.trans k2⟩
  simp only [eNew, hf, Res.bind]
  rw [← hS0]
  simp only [run]
end
end
end Lw
set_option Elab.async false
set_option linter.all false
set_option maxRecDepth 100000
set_option maxHeartbeats 0
namespace Lw
noncomputable section
open PySem PySem.Spec PyProof.Rows L2 Mp
def fsOf (l d : Bool) (o : Nat) : List W := (if l then [.ins 5 []] else []) ++ (if d then [.ins 6 []] else []) ++ (if 0 < o then [.ins 7 [.int (o : Int)]] else [])
def chn' (c : Nat) (l d : Bool) (o : Nat) : W := .ins 8 [.int (c : Int), .tup (fsOf l d o)]
section
variable {l d : Bool} {o : Nat}
theorem fs_fk (ho : o ≤ 2) : ∀ x ∈ fsOf l d o, ∃ n, Fk x n := by
  intro x hx
  unfold fsOf at hx
  simp only [List.mem_append] at hx
  rcases hx with (hx | hx) | hx
  · cases l <;> simp at hx
    subst hx; exact ⟨_, .l⟩
  · cases d <;> simp at hx
    subst hx; exact ⟨_, .d⟩
  · by_cases h : 0 < o
    · rw [if_pos h] at hx
      simp at hx
      subst hx; exact ⟨_, .o ⟨h, ho⟩⟩
    · rw [if_neg h] at hx
      simp at hx
theorem fs_len : (fsOf l d o).length ≤ 3 := by
  unfold fsOf
  by_cases h : 0 < o <;> cases l <;> cases d <;> simp [h]
theorem fs_nd : ((fsOf l d o).map ord).Nodup := by
  unfold fsOf
  by_cases h : 0 < o <;> cases l <;> cases d <;> simp [h, ord]
theorem fs_srt : srt (fsOf l d o) = fsOf l d o := by
  unfold fsOf srt
  by_cases h : 0 < o <;> cases l <;> cases d <;> simp [h, ord, List.range', List.flatMap, List.filter]
theorem fs_srtR : srt (fsOf l d o).reverse = fsOf l d o := by
  unfold fsOf srt
  by_cases h : 0 < o <;> cases l <;> cases d <;> simp [h, ord, List.range', List.flatMap, List.filter]
end
section
variable {S : Sto} {L : LSt}
theorem add_if {b : Bool} {w : W} {t : TM} {eF : EM} {V : Sto} {q : Nat} {acc : List W} (ht : t L V = .ok b V) (h4 : L[4]? = some (some (.loc q))) (hq : V[q]? = some (.lst acc)) (hk : Kp S V) (hS : S.length ≤ q) (hacc : acc.length ≤ 10) (he : b = true → ∀ U, eF L U = .ok w (U ++ [.dead])) : ∃ V', sIf t (sDrp (eBM isL appM (vget 4) (aCons eF aNil))) sNop L V = .nx L V' ∧ Kp S V' ∧ V'[q]? = some (.lst (acc ++ (if b then [w] else []))) := by
  have bN := bigN
  cases b with
  | false => exact ⟨V, if_n ht, hk, by simpa using hq⟩
  | true =>
    have lt := (List.getElem?_eq_some_iff.mp hq).1
    have hq1 : (V ++ [Ob.dead])[q]? = some (.lst acc) := by rw [List.getElem?_append_left lt]; exact hq
    have ap : appM (.loc q) [w] (V ++ [Ob.dead]) = .ok .non ((V ++ [Ob.dead]).set q (.lst (acc ++ [w]))) := by
      have : acc.length < big := by omega
      simp [lstOf, hq1, this]
    refine ⟨(V ++ [Ob.dead]).set q (.lst (acc ++ [w])), if_t ht (drp_ok (bl_ok (by simp [h4]) hq (a_1 (he rfl V)) ap)), ?_, ?_⟩
    · refine ⟨by simp; have := hk.len; omega, fun p hp => ?_⟩
      rw [List.getElem?_set_ne (by omega), List.getElem?_append_left (by have := hk.len; omega)]
      exact hk.keep p hp
    · rw [List.getElem?_set_self (by simp; omega)]
      simp
theorem made_ok {c : Nat} {l d : Bool} {o : Nat} (hc : 1 ≤ c ∧ c ≤ 3) (ho : o ≤ 2) : ∃ S', v_made_channel [.int (c : Int), .bl l, .bl d, .int (o : Int)] S = .ok (chn' c l d o) S' ∧ Kp S S' := by
  obtain ⟨L, hL⟩ : ∃ L : LSt, L = [some (.int (c : Int)), some (.bl l), some (.bl d), some (.int (o : Int)), some (.loc S.length)] := ⟨_, rfl⟩
  obtain ⟨S0, hS0⟩ : ∃ S0, S0 = S ++ [Ob.lst []] := ⟨_, rfl⟩
  have t0 : v_made_channel_s0 [some (.int (c : Int)), some (.bl l), some (.bl d), some (.int (o : Int)), none] S = .nx L S0 := by
    rw [hL, hS0]
    exact asg_ok (lst_ok (ws := []) rfl (by decide))
  have k0 : Kp S S0 := by rw [hS0]; exact Kp.app _
  have g0 : S0[S.length]? = some (.lst []) := by rw [hS0]; simp
  have h4 : L[4]? = some (some (.loc S.length)) := by rw [hL]; rfl
  have v0 : ∀ U, vget 0 L U = .ok (.int (c : Int)) U := fun U => by rw [hL]; rfl
  have v1 : ∀ U, vget 1 L U = .ok (.bl l) U := fun U => by rw [hL]; rfl
  have v2 : ∀ U, vget 2 L U = .ok (.bl d) U := fun U => by rw [hL]; rfl
  have v3 : ∀ U, vget 3 L U = .ok (.int (o : Int)) U := fun U => by rw [hL]; rfl
  have v4 : ∀ U, vget 4 L U = .ok (.loc S.length) U := fun U => by rw [hL]; rfl
  obtain ⟨V1, t1, k1, g1⟩ := add_if (S := S) (w := .ins 5 []) (eF := eNew0 frzO 5 0) (tst_ok (v1 S0)) h4 g0 k0 (Nat.le_refl _) (by simp) (fun _ U => new_l)
  obtain ⟨V2, t2, k2, g2⟩ := add_if (S := S) (w := .ins 6 []) (eF := eNew0 frzO 6 0) (tst_ok (v2 V1)) h4 g1 k1 (Nat.le_refl _) (by cases l <;> simp) (fun _ U => new_d)
  have gt : tB1 (Mp.bin gtI (vget 3) (cst (.int 0))) L V2 = .ok (decide (0 < o)) V2 := tbin (v3 V2) rfl (by simp)
  obtain ⟨V3, t3, k3, g3⟩ := add_if (S := S) (w := .ins 7 [.int (o : Int)]) (eF := eNew frzO 7 1 (defM 2 [] v_Overtakes___init__) (aCons (vget 3) aNil)) gt h4 g2 k2 (Nat.le_refl _) (by cases l <;> cases d <;> simp) (fun h U => new_o (a_1 (v3 U)) ⟨of_decide_eq_true h, ho⟩)
  have g3' : V3[S.length]? = some (.lst (fsOf l d o)) := by
    rw [g3]
    unfold fsOf
    by_cases h : 0 < o <;> simp [h]
  have fa : aCons (vget 0) (aStar (vget 4) aNil) L V3 = .ok (.int (c : Int) :: fsOf l d o) V3 := by
    refine a_c (v0 V3) ?_
    simp only [aStar, v4, Res.bind, seqW, lstOf, g3']
    simp
  obtain ⟨V4, e4, k4⟩ := new_chan (ls := L) hc fa (fs_fk ho) fs_nd fs_len
  rw [fs_srt] at e4
  refine ⟨V4, ?_, k3.trans k4⟩
  exact congrArg runB (seq_nx t0 (seq_nx t1 (seq_nx t2 (seq_nx t3 (ret_ok e4)))))
end
end
end Lw
set_option Elab.async false
set_option linter.all false
set_option maxRecDepth 100000
set_option maxHeartbeats 0
namespace Lw
noncomputable section
open PySem PySem.Spec PyProof.Rows L2 Mp
theorem len_app (a b : Str) : (a ++ b).length = a.length + b.length := by
  rw [TL.len_tl, TL.tl_append, List.length_append, ← TL.len_tl, ← TL.len_tl]
theorem tl_sp : TL.tl (" " : Str) = [32] := by decide +kernel
theorem jn_step {f : EM} {fs : List EM} {acc y : Str} {ls : LSt} {S : Sto} (h : f ls S = .ok (.str y) S) (hl : (acc ++ y).length ≤ big) : jnGo (f :: fs) acc ls S = jnGo fs (acc ++ y) ls S := by
  simp only [jnGo, h, Res.bind, if_pos hl]
theorem fmt_s {f : EM} {y : Str} {ls : LSt} {S : Sto} (h : f ls S = .ok (.str y) S) (hl : y.length ≤ big) : eUn fmtW f ls S = .ok (.str y) S := by
  simp only [eUn, h, Res.bind, fmtW, if_pos hl, NoX]
theorem fmt_n {f : EM} {n : Nat} {ls : LSt} {S : Sto} (h : f ls S = .ok (.int (n : Int)) S) (hn : n < 1000) : eUn fmtW f ls S = .ok (.str (nm n)) S := by
  have q := strW_int hn (tab := noTab) (S := S)
  simp only [eUn, h, Res.bind, NoX]
  have e : fmtW (.int (n : Int)) S = strW noTab (.int (n : Int)) S := rfl
  rw [e, q]
theorem big6 : (1000000 : Nat) ≤ big := by unfold big; omega
abbrev eqT : W → W → M W := els (datE false) (els (eqO false 9 clsSub du19__eq__) (eqR 9 du19__eq__))
/-! ### channels, compared -/
section
variable {S : Sto}
theorem eqs_l : v_Loses___eq__ [.ins 5 [], .ins 5 []] S = .ok (.bl true) S := by
  have i : isiA 9 clsX clsSub [.ins 5 [], .glo 5] S = .ok (.bl true) S := by simp [clsX, clsSub]
  have a : eCall (isiA 9 clsX clsSub) (aCons (vget 1) (aCons (cst (.glo 5)) aNil)) [some (.ins 5 []), some (.ins 5 [])] S = .ok (.bl true) S := call_ok (a_c rfl (a_1 rfl)) i
  exact congrArg runB (ret_ok a)
theorem eqs_d : v_Doubles___eq__ [.ins 6 [], .ins 6 []] S = .ok (.bl true) S := by
  have i : isiA 9 clsX clsSub [.ins 6 [], .glo 6] S = .ok (.bl true) S := by simp [clsX, clsSub]
  have a : eCall (isiA 9 clsX clsSub) (aCons (vget 1) (aCons (cst (.glo 6)) aNil)) [some (.ins 6 []), some (.ins 6 [])] S = .ok (.bl true) S := call_ok (a_c rfl (a_1 rfl)) i
  exact congrArg runB (ret_ok a)
theorem eqs_o {b : Nat} : v_Overtakes___eq__ [.ins 7 [.int (b : Int)], .ins 7 [.int (b : Int)]] S = .ok (.bl true) S := by
  have i : isiA 9 clsX clsSub [.ins 7 [.int (b : Int)], .glo 7] S = .ok (.bl true) S := by simp [clsX, clsSub]
  have f0 : eAx at10_by at10_byx (vget 0) [some (.ins 7 [.int (b : Int)]), some (.ins 7 [.int (b : Int)])] S = .ok (.int (b : Int)) S := by simp [at10_by]
  have f1 : eAx at10_by at10_byx (vget 1) [some (.ins 7 [.int (b : Int)]), some (.ins 7 [.int (b : Int)])] S = .ok (.int (b : Int)) S := by simp [at10_by]
  have q := eq_nn (Y := (els (eqO false 9 clsSub du9__eq__) (eqR 9 du9__eq__))) (n := b) (m := b) (V := S)
  rw [decide_eq_true rfl] at q
  have a : eCall (isiA 9 clsX clsSub) (aCons (vget 1) (aCons (cst (.glo 7)) aNil)) [some (.ins 7 [.int (b : Int)]), some (.ins 7 [.int (b : Int)])] S = .ok (.bl true) S := call_ok (a_c rfl (a_1 rfl)) i
  exact congrArg runB (ret_ok (vand_t a (bin_ok f0 f1 q)))
theorem nf5 : nfK 9 clsSub 5 (.c 5) = true ∧ 5 < 9 ∧ 5 < 9 ∧ clsSub 5 5 = true := by decide
theorem nf6 : nfK 9 clsSub 6 (.c 6) = true ∧ 6 < 9 ∧ 6 < 9 ∧ clsSub 6 6 = true := by decide
theorem nf7 : nfK 9 clsSub 7 (.c 7) = true ∧ 7 < 9 ∧ 7 < 9 ∧ clsSub 7 7 = true := by decide
theorem ite_ {c : Nat} {fs : List W} {g : BM} (h1 : du12__eq__ c = some g) (h2 : nfK 9 clsSub c (.c c) = true ∧ c < 9 ∧ c < 9 ∧ clsSub c c = true) (h3 : fs.all simW = true) (h4 : g [.ins c fs, .ins c fs] S = .ok (.bl true) S) : itE 9 clsSub du12__eq__ S (.ins c fs) (.ins c fs) = some true := by
  unfold itE
  simp only [h1, h4]
  rw [if_pos ⟨h2.1, h2.2.1, h2.2.2.1, h2.2.2.2, h3, h3⟩]
  simp
theorem it_fk {x : W} {n : Nat} (h : Fk x n) : itE 9 clsSub du12__eq__ S x x = some true := by
  cases h with
  | l => exact ite_ (g := defM 2 [] v_Loses___eq__) rfl nf5 rfl eqs_l
  | d => exact ite_ (g := defM 2 [] v_Doubles___eq__) rfl nf6 rfl eqs_d
  | o h => exact ite_ (g := defM 2 [] v_Overtakes___eq__) rfl nf7 rfl eqs_o
theorem its_fk : ∀ xs : List W, (∀ x ∈ xs, ∃ n, Fk x n) → itsE 9 clsSub du12__eq__ S xs xs = some true
  | [], _ => rfl
  | x :: xs, h => by
    obtain ⟨n, f⟩ := h x (by simp)
    unfold itsE
    rw [it_fk f]
    exact its_fk xs fun y hy => h y (List.mem_cons_of_mem _ hy)
abbrev eqF : W → W → M W := els (datE false) (els (els (eqO false 9 clsSub du12__eq__) (eqR 9 du12__eq__)) (els (seqT false 9 clsSub du12__eq__) (lenN false)))
theorem dat_ins {n c : Nat} {fs : List W} : dat S n (.ins c fs) = none := by cases n <;> rfl
theorem eqF_ok : ∀ xs : List W, (∀ x ∈ xs, ∃ n, Fk x n) → eqF (.tup xs) (.tup xs) S = .ok (.bl true) S
  | [], _ => rfl
  | x :: xs, h => by
    obtain ⟨n, f⟩ := h x (by simp)
    have hd : dat S 39 x = none := by cases f <;> exact dat_ins
    have d : dat S 40 (.tup (x :: xs)) = none := by
      show (optAll (dat S 39) (x :: xs)).map PyData.tuple = none
      simp only [optAll, hd]; rfl
    have e1 : datE false (.tup (x :: xs)) (.tup (x :: xs)) S = .stuck := by simp only [datE, d]
    have e2 : els (eqO false 9 clsSub du12__eq__) (eqR 9 du12__eq__) (.tup (x :: xs)) (.tup (x :: xs)) S = .stuck := rfl
    have i := its_fk (S := S) (x :: xs) h
    refine els_2 e1 (els_2 e2 (els_1 ?_))
    simp only [seqT, i]
    rfl
theorem eqm_c {c o : Nat} {l d : Bool} (ho : o ≤ 2) : v_Channel___eq__ [chn' c l d o, chn' c l d o] S = .ok (.bl true) S := by
  obtain ⟨x, hx⟩ : ∃ x, x = chn' c l d o := ⟨_, rfl⟩
  have i : isiA 9 clsX clsSub [x, .glo 8] S = .ok (.bl true) S := by rw [hx]; unfold chn'; simp [clsX, clsSub]
  have f0 : eAx at17_capacity at17_capacityx (vget 0) [some x, some x] S = .ok (.int (c : Int)) S := by rw [hx]; unfold chn'; simp [at17_capacity]
  have f1 : eAx at17_capacity at17_capacityx (vget 1) [some x, some x] S = .ok (.int (c : Int)) S := by rw [hx]; unfold chn'; simp [at17_capacity]
  have g0 : eAx at15_faults at15_faultsx (vget 0) [some x, some x] S = .ok (.tup (fsOf l d o)) S := by rw [hx]; unfold chn'; simp [at15_faults]
  have g1 : eAx at15_faults at15_faultsx (vget 1) [some x, some x] S = .ok (.tup (fsOf l d o)) S := by rw [hx]; unfold chn'; simp [at15_faults]
  have q := eq_nn (Y := els (els (eqO false 9 clsSub du12__eq__) (eqR 9 du12__eq__)) (els (seqT false 9 clsSub du12__eq__) (lenN false))) (n := c) (m := c) (V := S)
  rw [decide_eq_true rfl] at q
  rw [← hx]
  have a : eCall (isiA 9 clsX clsSub) (aCons (vget 1) (aCons (cst (.glo 8)) aNil)) [some x, some x] S = .ok (.bl true) S := call_ok (a_c rfl (a_1 rfl)) i
  exact congrArg runB (ret_ok (vand_t a (vand_t (bin_ok f0 f1 q) (bin_ok g0 g1 (eqF_ok _ (fs_fk ho))))))
theorem nfc : nfK 9 clsSub 8 (.c 8) = true ∧ 8 < 9 := by decide
abbrev neT : W → W → M W := els (datE true) (eqO true 9 clsSub du19__eq__)
theorem eq_ch {c o : Nat} {l d : Bool} (ho : o ≤ 2) : eqT (chn' c l d o) (chn' c l d o) S = .ok (.bl true) S := by
  have e := eqm_c (S := S) (c := c) (l := l) (d := d) ho
  unfold chn' at e ⊢
  refine els_2 rfl (els_1 ?_)
  simp [-v_Channel___eq__, eqO, objV, du19__eq__, kdW, nfK, clsSub, defM, e]
theorem ne_ch {c o : Nat} {l d : Bool} (ho : o ≤ 2) : neT (chn' c l d o) (chn' c l d o) S = .ok (.bl false) S := by
  have e := eqm_c (S := S) (c := c) (l := l) (d := d) ho
  unfold chn' at e ⊢
  refine els_2 rfl ?_
  simp [-v_Channel___eq__, eqO, objV, du19__eq__, kdW, nfK, clsSub, defM, e]
end
theorem len0 : (Str.empty).length = 0 := by decide +kernel
theorem len1 : (" " : Str).length = 1 := by decide +kernel
theorem tl_e : TL.tl Str.empty = [] := by decide +kernel
theorem tl_ov : TL.tl ("overtakes " : Str) = TL.tl ("overtakes" : Str) ++ [32] := by decide +kernel
theorem tl_jn (zs : List Str) : TL.tl (Txt.join " " zs) = TL.joinL [32] (zs.map TL.tl) := by rw [TL.join_eq, TL.tl_join, tl_sp]
abbrev sL : Str := "loses"
abbrev sD : Str := "doubles"
abbrev sO : Str := "overtakes"
def wds (c : Nat) (l d : Bool) (o : Nat) : List Str := [nm c] ++ (if l then [sL] else []) ++ (if d then [sD] else []) ++ (if 0 < o then [sO, nm o] else [])
def ctx (c : Nat) (l d : Bool) (o : Nat) : Str := Txt.join " " (wds c l d o)
def strF : W → Str
  | .int i => Str.ofString (toString i)
  | .ins 5 _ => "loses"
  | .ins 6 _ => "doubles"
  | .ins 7 [.int b] => Str.empty ++ "overtakes " ++ Str.ofString (toString b)
  | _ => Str.empty
section
variable {c o : Nat} {l d : Bool}
theorem join_pts : Txt.join " " ((W.int (c : Int) :: fsOf l d o).map strF) = ctx c l d o := TL.ext_tl (by
  unfold ctx
  rw [tl_jn, tl_jn]
  unfold fsOf wds
  by_cases h : 0 < o <;> cases l <;> cases d <;> simp [h, strF, nm, TL.joinL, TL.tl_append, tl_e, tl_ov])
end
/-! ### texts of channels -/
section
variable {S : Sto} {ls : LSt} {c o : Nat} {l d : Bool}
theorem sum_le {k : Nat} : ∀ zs : List Str, (∀ w ∈ zs, w.length ≤ k) → (zs.map (·.length)).sum ≤ k * zs.length
  | [], _ => by simp
  | z :: zs, h => by
    have h1 := sum_le zs fun w hw => h w (List.mem_cons_of_mem _ hw)
    have h2 := h z (by simp)
    simp only [List.map_cons, List.sum_cons, List.length_cons, Nat.mul_add]
    omega
theorem joinL_le {c : Nat} : ∀ l : List (List Nat), (∀ p ∈ l, p.length ≤ c) → (TL.joinL [32] l).length ≤ (c + 1) * l.length
  | [], _ => by simp [TL.joinL]
  | [p], h => by
    have := h p (by simp)
    simp [TL.joinL]; omega
  | p :: q :: r, h => by
    have h1 := h p (by simp)
    have h2 := joinL_le (q :: r) fun x hx => h x (List.mem_cons_of_mem _ hx)
    have e : (TL.joinL [32] (p :: q :: r)).length = p.length + (1 + (TL.joinL [32] (q :: r)).length) := by simp [TL.joinL]; omega
    rw [e]
    simp only [List.length_cons] at h2 ⊢
    rw [Nat.mul_add (c + 1) (r.length + 1) 1]
    omega
theorem jn_len {k : Nat} {zs : List Str} (h : ∀ w ∈ zs, w.length ≤ k) : (Txt.join " " zs).length ≤ (k + 1) * zs.length := by
  rw [TL.len_tl, tl_jn]
  have := joinL_le (c := k) (zs.map TL.tl) (fun p hp => by
    obtain ⟨w, hw, rfl⟩ := List.mem_map.mp hp
    rw [← TL.len_tl]; exact h w hw)
  rw [List.length_map] at this
  exact this
theorem join_at {q k : Nat} {f : EM} {zs : List Str} {S1 : Sto} (hf : f ls S = .ok (.loc q) S1) (g : S1[q]? = some (.lst (zs.map W.str))) (hn : (k + 1) * zs.length ≤ 1000000) (h : ∀ w ∈ zs, w.length ≤ k) : eBM isS joinM (cst (.str " ")) (aCons f aNil) ls S = .ok (.str (Txt.join " " zs)) S1 := by
  have hs := sum_le zs h
  rw [Nat.add_mul] at hn
  have hc : (zs.map (·.length)).sum + zs.length * (" " : Str).length ≤ 16777216 := by rw [len1]; omega
  have hq : (seqW (.loc q) S1).bind asStrs = some zs := by simp [lstOf, g, asStrs_map]
  have ej : joinM (.str " ") [.loc q] S1 = .ok (.str (Txt.join " " zs)) S1 := by
    simp only [joinM, hq, if_pos hc]
  exact bs_ok (x' := " ") rfl (a_1 hf) ej
theorem strF_ok {w : W} (h : (∃ c : Nat, c ≤ 3 ∧ w = .int (c : Int)) ∨ ∃ n, Fk w n) : strW du18__str__ w S = .ok (.str (strF w)) S ∧ (strF w).length ≤ 20 := by
  rcases h with ⟨c, hc, rfl⟩ | ⟨n, f⟩
  · exact ⟨strW_int (by omega), Nat.le_trans (nm_len (n := c) (by omega)) (by decide)⟩
  · cases f with
    | l => exact ⟨by simp [du18__str__, v_Loses___str__, strF], by show ("loses" : Str).length ≤ 20; decide +kernel⟩
    | d => exact ⟨by simp [du18__str__, v_Doubles___str__, strF], by show ("doubles" : Str).length ≤ 20; decide +kernel⟩
    | @o b hb =>
      have h2 := nm_len (n := b) (by omega)
      have b6 := big6
      have lo : ("overtakes " : Str).length = 10 := by decide +kernel
      have f1 : eAx at10_by at10_byx (vget 0) [some (.ins 7 [.int (b : Int)])] S = .ok (.int (b : Int)) S := by simp [at10_by]
      have j : jnGo [(cst (.str "overtakes ")), (eUn fmtW (eAx at10_by at10_byx (vget 0)))] Str.empty [some (.ins 7 [.int (b : Int)])] S = .ok (Str.empty ++ "overtakes " ++ nm b) S := by
        rw [jn_step (y := "overtakes ") rfl (by rw [len_app, len0, lo]; omega)]
        rw [jn_step (fmt_n f1 (by omega)) (by rw [len_app, len_app, len0, lo]; omega)]
        rfl
      have jj : eJn [(cst (.str "overtakes ")), (eUn fmtW (eAx at10_by at10_byx (vget 0)))] [some (.ins 7 [.int (b : Int)])] S = .ok (.str (Str.empty ++ "overtakes " ++ nm b)) S := by simp only [eJn, j, Res.bind]
      have e : v_Overtakes___str__ [.ins 7 [.int (b : Int)]] S = .ok (.str (Str.empty ++ "overtakes " ++ nm b)) S := congrArg runB (ret_ok jj)
      have el : (strF (.ins 7 [.int (b : Int)])).length ≤ 20 := by
        show (Str.empty ++ "overtakes " ++ nm b).length ≤ 20
        rw [len_app, len_app, len0, lo]; omega
      exact ⟨by simp [du18__str__, e]; rfl, el⟩
theorem str_ch (hc : c ≤ 3) (ho : o ≤ 2) : ∃ S', v_Channel___str__ [chn' c l d o] S = .ok (.str (ctx c l d o)) S' ∧ Kp S S' := by
  obtain ⟨L, hL⟩ : ∃ L : LSt, L = [some (chn' c l d o), none] := ⟨_, rfl⟩
  have f0 : eAx at17_capacity at17_capacityx (vget 0) L S = .ok (.int (c : Int)) S := by rw [hL]; unfold chn'; simp [at17_capacity]
  have g0 : eAx at15_faults at15_faultsx (vget 0) L S = .ok (.tup (fsOf l d o)) S := by rw [hL]; unfold chn'; simp [at15_faults]
  have st : aStar (eAx at15_faults at15_faultsx (vget 0)) aNil L S = .ok (fsOf l d o) S := by
    simp only [aStar, g0, Res.bind, seqW]
    simp
  have fl := fs_len (l := l) (d := d) (o := o)
  have fe : eTup (aCons (eAx at17_capacity at17_capacityx (vget 0)) (aStar (eAx at15_faults at15_faultsx (vget 0)) aNil)) L S = .ok (.tup (.int (c : Int) :: fsOf l d o)) S := tup_ok (a_c f0 st) (by simp; omega)
  have hm : ∀ w ∈ W.int (c : Int) :: fsOf l d o, (∃ c : Nat, c ≤ 3 ∧ w = .int (c : Int)) ∨ ∃ n, Fk w n := fun w hw => by
    rcases List.mem_cons.mp hw with rfl | hw
    · exact .inl ⟨c, hc, rfl⟩
    · exact .inr (fs_fk ho w hw)
  have lc := eLc_sq (vs := [1]) (g := cN 1) (e := eCall (b1 (strW du18__str__)) (aCons (vget 1) aNil)) (ys := ((W.int (c : Int) :: fsOf l d o).map strF).map W.str) fe (.inl rfl) (by simp) (by simp; omega) fun i w y h1 h2 => by
    rw [List.getElem?_map, List.getElem?_map, h1] at h2
    cases h2
    refine ⟨_, rfl, fun U => ?_⟩
    have v1 : vget 1 ((wipeL L [1]).set 1 (some w)) U = .ok w U := by rw [hL]; rfl
    exact call1_ok v1 (strF_ok (hm w (List.mem_of_getElem? h1))).1
  have j := join_at (k := 20) (zs := (W.int (c : Int) :: fsOf l d o).map strF) lc (by simp) (by simp; omega) (fun z hz => by
    obtain ⟨w, hw, rfl⟩ := List.mem_map.mp hz
    exact (strF_ok (S := S) (hm w hw)).2)
  rw [join_pts] at j
  rw [hL] at j
  exact ⟨_, congrArg runB (ret_ok j), Kp.app _⟩
theorem strW_ch (hc : c ≤ 3) (ho : o ≤ 2) : ∃ S', strW du24__str__ (chn' c l d o) S = .ok (.str (ctx c l d o)) S' ∧ Kp S S' := by
  obtain ⟨S', e, k⟩ := str_ch (S := S) (c := c) (o := o) (l := l) (d := d) hc ho
  refine ⟨S', ?_, k⟩
  unfold chn' at e ⊢
  simp [-v_Channel___str__, du24__str__, e]
end
end
end Lw
set_option Elab.async false
set_option linter.all false
set_option maxRecDepth 100000
set_option maxHeartbeats 0
namespace Lw
noncomputable section
open PySem PySem.Spec PyProof.Rows L2 Mp
/-! ### lists that are made -/
def LX (F : EM) (ls : LSt) (zs : List W) : Prop := ∀ V : Sto, ∃ a V1, F ls V = .ok (.loc a) V1 ∧ V1[a]? = some (.lst zs) ∧ Kp V V1
section
variable {ls : LSt} {F F' : EM} {zs us : List W}
theorem LX.lst {A : AM} (h : ∀ V : Sto, ∃ V1, A ls V = .ok zs V1 ∧ Kp V V1) (hn : zs.length ≤ 1000) : LX (eLst A) ls zs := fun V => by
  obtain ⟨V1, e, k⟩ := h V
  exact ⟨V1.length, V1 ++ [.lst zs], lst_ok e hn, by simp, k.trans (Kp.app _)⟩
theorem LX.add (h1 : LX F ls zs) (h2 : LX F' ls us) (hn : zs.length + us.length ≤ 100000) : LX (Mp.bin addW F F') ls (zs ++ us) := fun V => by
  obtain ⟨a, V1, e1, g1, k1⟩ := h1 V
  obtain ⟨b, V2, e2, g2, k2⟩ := h2 V1
  have bN := bigN
  refine ⟨V2.length, V2 ++ [.lst (zs ++ us)], bin_ok e1 e2 ?_, by simp, (k1.trans k2).trans (Kp.app _)⟩
  simp only [addW, k2.at g1, g2, newL]
  rw [if_pos (by simp; omega)]
theorem LX.rep {G : EM} {k : Nat} (h1 : LX F ls zs) (hg : ∀ V : Sto, G ls V = .ok (.int (k : Int)) V) (hk : k ≤ 1000) (hn : zs.length ≤ 1000) : LX (Mp.bin repL F G) ls (List.replicate k zs).flatten := fun V => by
  obtain ⟨a, V1, e1, g1, k1⟩ := h1 V
  refine ⟨V1.length, V1 ++ [.lst (List.replicate k zs).flatten], bin_ok e1 (hg V1) ?_, by simp, k1.trans (Kp.app _)⟩
  have hc : (0 ≤ (k : Int) ∧ (k : Int) ≤ 1000) ∧ zs.length ≤ 1000 := by omega
  simp only [repL, lstOf, g1, if_pos hc]
  simp
theorem LX.vif {t : TM} {b : Bool} (ht : ∀ V : Sto, t ls V = .ok b V) (h1 : LX F ls zs) (h2 : LX F' ls us) : LX (vIf t F F') ls (if b then zs else us) := fun V => by
  cases b with
  | true =>
    obtain ⟨a, V1, e, g, k⟩ := h1 V
    exact ⟨a, V1, vif_t (ht V) e, g, k⟩
  | false =>
    obtain ⟨a, V1, e, g, k⟩ := h2 V
    exact ⟨a, V1, vif_f (ht V) e, g, k⟩
end
def tl4 (c : Nat) (l d : Bool) (o : Nat) : W := .tup [.int (c : Int), .bl l, .bl d, .int (o : Int)]
section
variable {S : Sto} {ls : LSt} {c o : Nat} {l d : Bool}
theorem t4_0 (h : ls[0]? = some (some (tl4 c l d o))) (V : Sto) : Mp.bin ixW (vget 0) (cst (.int 0)) ls V = .ok (.int (c : Int)) V := bin_ok (v := tl4 c l d o) (by simp [h]) rfl (ix_t (i := 0) rfl)
theorem t4_1 (h : ls[0]? = some (some (tl4 c l d o))) (V : Sto) : Mp.bin ixW (vget 0) (cst (.int 1)) ls V = .ok (.bl l) V := bin_ok (v := tl4 c l d o) (by simp [h]) rfl (ix_t (i := 1) rfl)
theorem t4_2 (h : ls[0]? = some (some (tl4 c l d o))) (V : Sto) : Mp.bin ixW (vget 0) (cst (.int 2)) ls V = .ok (.bl d) V := bin_ok (v := tl4 c l d o) (by simp [h]) rfl (ix_t (i := 2) rfl)
theorem t4_3 (h : ls[0]? = some (some (tl4 c l d o))) (V : Sto) : Mp.bin ixW (vget 0) (cst (.int 3)) ls V = .ok (.int (o : Int)) V := bin_ok (v := tl4 c l d o) (by simp [h]) rfl (ix_t (i := 3) rfl)
theorem t4_gt (h : ls[0]? = some (some (tl4 c l d o))) (V : Sto) : tB1 (Mp.bin gtI (Mp.bin ixW (vget 0) (cst (.int 3))) (cst (.int 0))) ls V = .ok (decide (0 < o)) V := tbin (t4_3 h V) rfl (by simp)
theorem LX.nil : LX (eLst aNil) ls [] := LX.lst (fun V => ⟨V, rfl, .refl⟩) (by simp)
theorem faults_ok (ho : o ≤ 2) : ∃ a S', v__law_faults [tl4 c l d o] S = .ok (.loc a) S' ∧ S'[a]? = some (.lst (fsOf l d o)) ∧ Kp S S' := by
  obtain ⟨L, hL⟩ : ∃ L : LSt, L = [some (tl4 c l d o), none] := ⟨_, rfl⟩
  have h0 : L[0]? = some (some (tl4 c l d o)) := by rw [hL]; rfl
  have n1 : LX (eLst (aCons (eNew0 frzO 5 0) aNil)) L [.ins 5 []] := LX.lst (fun V => ⟨V ++ [.dead], a_1 new_l, Kp.app _⟩) (by simp)
  have n2 : LX (eLst (aCons (eNew0 frzO 6 0) aNil)) L [.ins 6 []] := LX.lst (fun V => ⟨V ++ [.dead], a_1 new_d, Kp.app _⟩) (by simp)
  have A := (LX.vif (fun V => tst_ok (t4_1 h0 V)) n1 LX.nil).add (LX.vif (fun V => tst_ok (t4_2 h0 V)) n2 LX.nil) (by cases l <;> cases d <;> simp)
  obtain ⟨a, S1, e1, g1, k1⟩ := A S
  obtain ⟨M, hM⟩ : ∃ M : LSt, M = [some (tl4 c l d o), some (.loc a)] := ⟨_, rfl⟩
  have m0 : M[0]? = some (some (tl4 c l d o)) := by rw [hM]; rfl
  have t0 : v__law_faults_s0 L S = .nx M S1 := by
    have q := asg_ok (i := 1) e1
    rw [hM]
    rw [hL] at q ⊢
    exact q
  have v1 : vget 1 M S1 = .ok (.loc a) S1 := by rw [hM]; rfl
  have B : ∃ b S2, vIf (tB1 (Mp.bin gtI (Mp.bin ixW (vget 0) (cst (.int 3))) (cst (.int 0)))) (eLst (aCons (eNew frzO 7 1 (defM 2 [] v_Overtakes___init__) (aCons (Mp.bin ixW (vget 0) (cst (.int 3))) aNil)) aNil)) (eLst aNil) M S1 = .ok (.loc b) S2 ∧ S2[b]? = some (.lst (if 0 < o then [.ins 7 [.int (o : Int)]] else [])) ∧ Kp S1 S2 := by
    have tt := t4_gt m0 S1
    by_cases h : 0 < o
    · rw [decide_eq_true h] at tt
      rw [if_pos h]
      exact ⟨(S1 ++ [Ob.dead]).length, S1 ++ [Ob.dead] ++ [.lst [.ins 7 [.int (o : Int)]]], vif_t tt (lst_ok (a_1 (new_o (a_1 (t4_3 m0 S1)) ⟨h, ho⟩)) (by simp)), List.getElem?_concat_length, (Kp.app _).trans (Kp.app _)⟩
    · rw [decide_eq_false h] at tt
      rw [if_neg h]
      exact ⟨S1.length, S1 ++ [.lst []], vif_f tt (lst_ok rfl (by simp)), by simp, Kp.app _⟩
  obtain ⟨b, S2, e2, g2, k2⟩ := B
  have bN := bigN
  have fl := fs_len (l := l) (d := d) (o := o)
  have ad : addW (.loc a) (.loc b) S2 = .ok (.loc S2.length) (S2 ++ [.lst (fsOf l d o)]) := by
    simp only [addW, k2.at g1, g2, newL]
    rw [if_pos (show _ ≤ big from by
      refine Nat.le_trans ?_ bN
      by_cases h : 0 < o <;> cases l <;> cases d <;> simp [h])]
    rfl
  refine ⟨S2.length, S2 ++ [.lst (fsOf l d o)], ?_, by simp, (k1.trans k2).trans (Kp.app _)⟩
  rw [hL] at t0
  exact congrArg runB (seq_nx t0 (ret_ok (bin_ok v1 e2 ad)))
theorem fs_ndR : ((fsOf l d o).reverse.map ord).Nodup := by
  unfold fsOf
  by_cases h : 0 < o <;> cases l <;> cases d <;> simp [h, ord]
theorem chan_ok (hc : 1 ≤ c ∧ c ≤ 3) (ho : o ≤ 2) : ∃ S', v__law_channel [tl4 c l d o] S = .ok (chn' c l d o) S' ∧ Kp S S' := by
  obtain ⟨a, S1, e1, g1, k1⟩ := faults_ok (S := S) (c := c) (l := l) (d := d) ho
  obtain ⟨xs, hxs⟩ : ∃ xs, xs = (fsOf l d o).reverse := ⟨_, rfl⟩
  obtain ⟨S2, hS2⟩ : ∃ S2, S2 = S1 ++ [Ob.lst xs] := ⟨_, rfl⟩
  have k2 : Kp S1 S2 := by rw [hS2]; exact Kp.app _
  have g2 : S2[S1.length]? = some (.lst xs) := by rw [hS2]; simp
  obtain ⟨L, hL⟩ : ∃ L : LSt, L = [some (tl4 c l d o), some (.loc S1.length)] := ⟨_, rfl⟩
  have h0 : L[0]? = some (some (tl4 c l d o)) := by rw [hL]; rfl
  have t0 : v__law_channel_s0 [some (tl4 c l d o), none] S = .nx L S2 := by
    rw [hL, hS2, hxs]
    have fe : eFn (defM 1 [] v__law_faults) (aCons (vget 0) aNil) [some (tl4 c l d o), none] S = .ok (.loc a) S1 := fn_ok (a_1 rfl) rfl e1
    have rv : eUn revW (eFn (defM 1 [] v__law_faults) (aCons (vget 0) aNil)) [some (tl4 c l d o), none] S = .ok (.loc S1.length) (S1 ++ [.lst (fsOf l d o).reverse]) := by
      simp only [eUn, fe, Res.bind, revW, g1, NoX]
    exact asg_ok rv
  have v1 : vget 1 L S2 = .ok (.loc S1.length) S2 := by rw [hL]; rfl
  have ln : eCall (b1 lenW) (aCons (vget 1) aNil) L S2 = .ok (.int (xs.length : Int)) S2 := call1_ok v1 (by simp only [lenW, g2])
  have is : ∀ m : Nat, tB1 (Mp.bin eqT (eCall (b1 lenW) (aCons (vget 1) aNil)) (cst (.int (m : Int)))) L S2 = .ok (decide (xs.length = m)) S2 := fun m => tbin ln rfl eq_nn
  have x0 := t4_0 h0 S2
  have xi : ∀ (i : Nat) (w : W), xs[i]? = some w → Mp.bin ixW (vget 1) (cst (.int (i : Int))) L S2 = .ok w S2 := fun i w h => bin_ok v1 rfl (ix_l g2 h)
  have hf : ∀ x ∈ xs, ∃ n, Fk x n := fun x hx => fs_fk ho x (by rw [hxs] at hx; exact List.mem_reverse.mp hx)
  have hn : (xs.map ord).Nodup := by
    rw [hxs]; exact fs_ndR
  have hl : xs.length ≤ 3 := by rw [hxs, List.length_reverse]; exact fs_len
  have hs : srt xs = fsOf l d o := by rw [hxs]; exact fs_srtR
  have mk : ∀ {A : AM}, A L S2 = .ok (.int (c : Int) :: xs) S2 → ∃ S', eNew frzO 8 2 (defS 2 v_Channel___init__) A L S2 = .ok (chn' c l d o) S' ∧ Kp S2 S' := fun h => by
    obtain ⟨S', e, k⟩ := new_chan hc h hf hn hl
    rw [hs] at e
    exact ⟨S', e, k⟩
  have fin : ∀ {S'} {w : W}, sSeq v__law_channel_s1 (sSeq v__law_channel_s2 v__law_channel_s3) L S2 = .rt w S' → v__law_channel [tl4 c l d o] S = .ok w S' := fun h => congrArg runB (seq_nx t0 h)
  have q1 := is 0
  have q2 := is 1
  have q3 := is 2
  have k12 := k1.trans k2
  match xs, hl with
  | [], _ =>
    obtain ⟨S', e, k⟩ := mk (A := aCons (Mp.bin ixW (vget 0) (cst (.int 0))) aNil) (a_1 x0)
    exact ⟨S', fin (seq_rt (if_t q1 (ret_ok e))), k12.trans k⟩
  | [u], _ =>
    obtain ⟨S', e, k⟩ := mk (A := aCons (Mp.bin ixW (vget 0) (cst (.int 0))) (aCons (Mp.bin ixW (vget 1) (cst (.int 0))) aNil)) (a_c x0 (a_1 (xi 0 u rfl)))
    exact ⟨S', fin (seq_nx (if_n q1) (seq_rt (if_t q2 (ret_ok e)))), k12.trans k⟩
  | [u, v], _ =>
    obtain ⟨S', e, k⟩ := mk (A := aCons (Mp.bin ixW (vget 0) (cst (.int 0))) (aCons (Mp.bin ixW (vget 1) (cst (.int 0))) (aCons (Mp.bin ixW (vget 1) (cst (.int 1))) aNil))) (a_c x0 (a_c (xi 0 u rfl) (a_1 (xi 1 v rfl))))
    exact ⟨S', fin (seq_nx (if_n q1) (seq_nx (if_n q2) (ret_ok (vif_t q3 e)))), k12.trans k⟩
  | [u, v, y], _ =>
    obtain ⟨S', e, k⟩ := mk (A := aCons (Mp.bin ixW (vget 0) (cst (.int 0))) (aCons (Mp.bin ixW (vget 1) (cst (.int 0))) (aCons (Mp.bin ixW (vget 1) (cst (.int 1))) (aCons (Mp.bin ixW (vget 1) (cst (.int 2))) aNil)))) (a_c x0 (a_c (xi 0 u rfl) (a_c (xi 1 v rfl) (a_1 (xi 2 y rfl)))))
    exact ⟨S', fin (seq_nx (if_n q1) (seq_nx (if_n q2) (ret_ok (vif_f q3 e)))), k12.trans k⟩
  | _ :: _ :: _ :: _ :: _, h => simp at h
end
end
end Lw
set_option Elab.async false
set_option linter.all false
set_option maxRecDepth 100000
set_option maxHeartbeats 0
namespace Lw
noncomputable section
open PySem PySem.Spec PyProof.Rows L2 Mp
/-! ### faults, compared; a fault in faults -/
def feq : W → W → Bool
  | .ins 5 _, .ins 5 _ => true
  | .ins 6 _, .ins 6 _ => true
  | .ins 7 [.int a], .ins 7 [.int b] => decide (a = b)
  | _, _ => false
section
variable {S : Sto} {x y : W} {n m : Nat}
theorem isa1 {g : Nat} {b : Bool} (i : isiA 9 clsX clsSub [y, .glo g] S = .ok (.bl b) S) : eCall (isiA 9 clsX clsSub) (aCons (vget 1) (aCons (cst (.glo g)) aNil)) [some x, some y] S = .ok (.bl b) S := call_ok (a_c (f := vget 1) rfl (a_1 (f := cst (.glo g)) rfl)) i
theorem eql (h : Fk y m) : v_Loses___eq__ [.ins 5 [], y] S = .ok (.bl (feq (.ins 5 []) y)) S := by
  have i : isiA 9 clsX clsSub [y, .glo 5] S = .ok (.bl (feq (.ins 5 []) y)) S := by cases h <;> simp [clsX, clsSub, feq]
  exact congrArg runB (ret_ok (isa1 i))
theorem eqd (h : Fk y m) : v_Doubles___eq__ [.ins 6 [], y] S = .ok (.bl (feq (.ins 6 []) y)) S := by
  have i : isiA 9 clsX clsSub [y, .glo 6] S = .ok (.bl (feq (.ins 6 []) y)) S := by cases h <;> simp [clsX, clsSub, feq]
  exact congrArg runB (ret_ok (isa1 i))
theorem eqo_f {fs : List W} (i : isiA 9 clsX clsSub [y, .glo 7] S = .ok (.bl false) S) : v_Overtakes___eq__ [.ins 7 fs, y] S = .ok (.bl false) S := by
  have a := isa1 (x := .ins 7 fs) i
  unfold v_Overtakes___eq__
  show runB (sRet (vAnd _ _) [some (.ins 7 fs), some y] S) = _
  rw [ret_ok (vand_f a)]; rfl
theorem eqo {b : Nat} (h : Fk y m) : v_Overtakes___eq__ [.ins 7 [.int (b : Int)], y] S = .ok (.bl (feq (.ins 7 [.int (b : Int)]) y)) S := by
  cases h with
  | l =>
    have i : isiA 9 clsX clsSub [.ins 5 [], .glo 7] S = .ok (.bl false) S := by simp [clsX, clsSub]
    exact eqo_f i
  | d =>
    have i : isiA 9 clsX clsSub [.ins 6 [], .glo 7] S = .ok (.bl false) S := by simp [clsX, clsSub]
    exact eqo_f i
  | @o b' hb =>
    have i : isiA 9 clsX clsSub [.ins 7 [.int (b' : Int)], .glo 7] S = .ok (.bl true) S := by simp [clsX, clsSub]
    have f0 : eAx at10_by at10_byx (vget 0) [some (.ins 7 [.int (b : Int)]), some (.ins 7 [.int (b' : Int)])] S = .ok (.int (b : Int)) S := by simp [at10_by]
    have f1 : eAx at10_by at10_byx (vget 1) [some (.ins 7 [.int (b : Int)]), some (.ins 7 [.int (b' : Int)])] S = .ok (.int (b' : Int)) S := by simp [at10_by]
    have q := eq_nn (Y := (els (eqO false 9 clsSub du9__eq__) (eqR 9 du9__eq__))) (n := b) (m := b') (V := S)
    have e : feq (.ins 7 [.int (b : Int)]) (.ins 7 [.int (b' : Int)]) = decide (b = b') := by
      show decide ((b : Int) = (b' : Int)) = _
      by_cases z : b = b'
      · rw [decide_eq_true z, decide_eq_true (by omega)]
      · rw [decide_eq_false z, decide_eq_false (by omega)]
    rw [e]
    exact congrArg runB (ret_ok (vand_t (isa1 i) (bin_ok f0 f1 q)))
theorem ite2 {c d : Nat} {fs gs : List W} {g : BM} {b : Bool} (h1 : du12__eq__ c = some g) (h2 : nfK 9 clsSub c (.c d) = true ∧ c < 9 ∧ d < 9 ∧ clsSub d d = true) (h3 : fs.all simW = true) (h3' : gs.all simW = true) (h4 : g [.ins c fs, .ins d gs] S = .ok (.bl b) S) (h5 : c = d → fs = gs → b = true) : itE 9 clsSub du12__eq__ S (.ins c fs) (.ins d gs) = some b := by
  unfold itE
  simp only [h1, h4]
  rw [if_pos ⟨h2.1, h2.2.1, h2.2.2.1, h2.2.2.2, h3, h3'⟩]
  have h6 : (c = d ∧ fs = gs → b = true) := fun z => h5 z.1 z.2
  exact if_pos ⟨rfl, h6⟩
theorem itF (hx : Fk x n) (hy : Fk y m) : itE 9 clsSub du12__eq__ S x y = some (feq x y) := by
  cases hx with
  | l => cases hy with
    | l => exact ite2 (g := defM 2 [] v_Loses___eq__) rfl (by decide) rfl rfl (eql .l) (fun _ _ => rfl)
    | d => exact ite2 (g := defM 2 [] v_Loses___eq__) rfl (by decide) rfl rfl (eql .d) (fun z => by cases z)
    | o hb => exact ite2 (g := defM 2 [] v_Loses___eq__) rfl (by decide) rfl rfl (eql (.o hb)) (fun z => by cases z)
  | d => cases hy with
    | l => exact ite2 (g := defM 2 [] v_Doubles___eq__) rfl (by decide) rfl rfl (eqd .l) (fun z => by cases z)
    | d => exact ite2 (g := defM 2 [] v_Doubles___eq__) rfl (by decide) rfl rfl (eqd .d) (fun _ _ => rfl)
    | o hb => exact ite2 (g := defM 2 [] v_Doubles___eq__) rfl (by decide) rfl rfl (eqd (.o hb)) (fun z => by cases z)
  | o ha => cases hy with
    | l => exact ite2 (g := defM 2 [] v_Overtakes___eq__) rfl (by decide) rfl rfl (eqo .l) (fun z => by cases z)
    | d => exact ite2 (g := defM 2 [] v_Overtakes___eq__) rfl (by decide) rfl rfl (eqo .d) (fun z => by cases z)
    | o hb => exact ite2 (g := defM 2 [] v_Overtakes___eq__) rfl (by decide) rfl rfl (eqo (.o hb)) (fun _ z => by
        simp only [List.cons.injEq, W.int.injEq, and_true] at z
        exact decide_eq_true z)
theorem inF (hx : Fk x n) : ∀ us : List W, (∀ u ∈ us, ∃ m, Fk u m) → inE 9 clsSub du12__eq__ S x us = some (us.any fun u => feq u x)
  | [], _ => rfl
  | u :: us, h => by
    obtain ⟨m, hu⟩ := h u (by simp)
    unfold inE
    rw [itF hu hx]
    cases q : feq u x with
    | true => simp [q]
    | false => simp [q, inF hx us fun y hy => h y (List.mem_cons_of_mem _ hy)]
abbrev inOp : W → W → M W := els (els (datIn false) (dctIn false)) (inT false 9 clsSub du12__eq__)
theorem inOp_ok (hx : Fk x n) {us : List W} (h : ∀ u ∈ us, ∃ m, Fk u m) : inOp x (.tup us) S = .ok (.bl (us.any fun u => feq u x)) S := by
  have d : dat S 40 x = none := by cases hx <;> exact dat_ins
  have e1 : datIn false x (.tup us) S = .stuck := by simp only [datIn, d]
  have e2 : dctIn false x (.tup us) S = .stuck := by cases hx <;> rfl
  refine els_2 (els_2 e1 e2) ?_
  simp only [inT, inF hx us h]
  rfl
end
/-! ### a comprehension over a tuple: some of them, each taken -/
section
variable {g : GW} {t : TM} {e : EM} {l0 : Nat} {ls : LSt}
theorem lcGo_tupM {ws : List W} (p : W → Bool) (f : W → W) (he : ∀ w ∈ ws, ∃ ls2, g w ls = some ls2 ∧ ∀ S, t ls2 S = .ok (p w) S ∧ (p w = true → e ls2 S = .ok (f w) S)) :
    ∀ (m i : Nat) (S : Sto) (acc : List W), i + m = ws.length → S[l0]? = some (.lst acc) → acc.length + m ≤ big → lcGo (.tup ws) g t e l0 ls (m + 1) i S = .ok () (S.set l0 (.lst (acc ++ ((ws.drop i).filter p).map f)))
  | 0, i, S, acc, hi, hl, _ => by
    have q : ws[i]? = none := by simp; omega
    have q2 : ws.drop i = [] := List.drop_eq_nil_of_le (by omega)
    unfold lcGo
    simp only [itNext, q, q2, List.filter_nil, List.map_nil, List.append_nil, set_same hl]
  | m + 1, i, S, acc, hi, hl, hb => by
    have h1 : i < ws.length := by omega
    have q : ws[i]? = some ws[i] := List.getElem?_eq_getElem h1
    obtain ⟨ls2, g1, g2⟩ := he ws[i] (List.getElem_mem h1)
    have hlt := (List.getElem?_eq_some_iff.mp hl).1
    have hb2 : acc.length < big := by omega
    unfold lcGo
    rw [List.drop_eq_getElem_cons h1]
    cases hp : p ws[i] with
    | true =>
      simp only [itNext, q, g1, (g2 S).1, (g2 S).2 hp, NoX, Res.bind, lstOf, hl, if_pos hb2, hp]
      simp only [if_true]
      rw [lcGo_tupM p f he m (i + 1) (S.set l0 (.lst (acc ++ [f ws[i]]))) (acc ++ [f ws[i]]) (by omega) (List.getElem?_set_self hlt) (by simp; omega), List.set_set, List.filter_cons_of_pos hp, List.map_cons, List.append_assoc]; rfl
    | false =>
      simp only [itNext, q, g1, (g2 S).1, NoX, Res.bind, hp]
      simp only [Bool.false_eq_true, if_false]
      rw [lcGo_tupM p f he m (i + 1) S acc (by omega) hl (by omega), List.filter_cons_of_neg (by simp [hp])]
theorem eLcM {fe : EM} {S S1 : Sto} {vs : List Nat} {ws : List W} (p : W → Bool) (f : W → W) (hf : fe ls S = .ok (.tup ws) S1) (hb : ws.length ≤ 1000)
    (he : ∀ w ∈ ws, ∃ ls2, g w (wipeL ls vs) = some ls2 ∧ ∀ S, t ls2 S = .ok (p w) S ∧ (p w = true → e ls2 S = .ok (f w) S)) : eLc (iAny fe) g t e vs ls S = .ok (.loc S1.length) (S1 ++ [.lst ((ws.filter p).map f)]) := by
  have i0 : iAny fe ls S = .ok (.tup ws) S1 := by simp only [iAny, hf, Res.bind, walkW, NoX]
  have bN := bigN
  have hl0 : (S1 ++ [Ob.lst []])[S1.length]? = some (Ob.lst []) := by simp
  have k := lcGo_tupM (l0 := S1.length) p f he ws.length 0 (S1 ++ [.lst []]) [] (Nat.zero_add _) hl0 (by simp only [List.length_nil]; omega)
  rw [List.drop_zero, set_last, List.nil_append] at k
  simp only [eLc, i0, Res.bind, itFuel, k]
/-- each taken; the store may grow -/
theorem lcGo_K {it : ItW} {ws ys : List W} (P : Sto → Prop) (hit : ∀ i S, P S → itNext it i S = some ws[i]?) (hP : ∀ S S', Kp S S' → P S → P S') (hP2 : ∀ S acc, P S → P (S.set l0 (.lst acc))) (hl : ws.length = ys.length)
    (he : ∀ (i : Nat) (w y : W), ws[i]? = some w → ys[i]? = some y → ∃ ls2, g w ls = some ls2 ∧ ∀ S, ∃ S', e ls2 S = .ok y S' ∧ Kp S S') :
    ∀ (m i : Nat) (S : Sto) (acc : List W), i + m = ws.length → S[l0]? = some (.lst acc) → P S → acc.length + m ≤ big → ∃ S', lcGo it g tTrue e l0 ls (m + 1) i S = .ok () S' ∧ S'[l0]? = some (.lst (acc ++ ys.drop i)) ∧ S.length ≤ S'.length ∧ ∀ j, j < S.length → j ≠ l0 → S'[j]? = S[j]?
  | 0, i, S, acc, hi, hl0, hp, _ => by
    have q : ws[i]? = none := by simp; omega
    have q2 : ys.drop i = [] := List.drop_eq_nil_of_le (by omega)
    refine ⟨S, ?_, by simp [q2, hl0], Nat.le_refl _, fun _ _ _ => rfl⟩
    unfold lcGo
    simp only [hit i S hp, q]
  | m + 1, i, S, acc, hi, hl0, hp, hb => by
    have h1 : i < ws.length := by omega
    have h2 : i < ys.length := by omega
    have q : ws[i]? = some ws[i] := List.getElem?_eq_getElem h1
    have q2 : ys[i]? = some ys[i] := List.getElem?_eq_getElem h2
    obtain ⟨ls2, g1, g2⟩ := he i _ _ q q2
    obtain ⟨S2, e2, k2⟩ := g2 S
    have hlt := (List.getElem?_eq_some_iff.mp hl0).1
    have hl2 := k2.at hl0
    have hlt2 := (List.getElem?_eq_some_iff.mp hl2).1
    have hb2 : acc.length < big := by omega
    obtain ⟨S', e3, a3, n3, k3⟩ := lcGo_K P hit hP hP2 hl he m (i + 1) (S2.set l0 (.lst (acc ++ [ys[i]]))) (acc ++ [ys[i]]) (by omega) (List.getElem?_set_self hlt2) (hP2 _ _ (hP _ _ k2 hp)) (by simp; omega)
    have hn := k2.len
    refine ⟨S', ?_, by rw [a3, List.drop_eq_getElem_cons h2, List.append_assoc]; rfl, by simp at n3; omega, fun j hj hne => ?_⟩
    · unfold lcGo
      simp only [hit i S hp, q, g1, tTrue, e2, NoX, Res.bind, if_true, lstOf, hl2, if_pos hb2, e3]
    · rw [k3 j (by simp; omega) hne, List.getElem?_set_ne (Ne.symm hne), k2.keep j hj]
theorem eLcK {fe : EM} {v : W} {S S1 : Sto} {vs : List Nat} {ws ys : List W} (hf : fe ls S = .ok v S1) (h : Sq v ws S1) (hl : ws.length = ys.length) (hb : ws.length ≤ 1000)
    (he : ∀ (i : Nat) (w y : W), ws[i]? = some w → ys[i]? = some y → ∃ ls2, g w (wipeL ls vs) = some ls2 ∧ ∀ S, ∃ S', e ls2 S = .ok y S' ∧ Kp S S') : ∃ S', eLc (iAny fe) g tTrue e vs ls S = .ok (.loc S1.length) S' ∧ S'[S1.length]? = some (.lst ys) ∧ Kp S1 S' := by
  have bN := bigN
  have hl0 : (S1 ++ [Ob.lst []])[S1.length]? = some (Ob.lst []) := by simp
  rcases h with rfl | ⟨L, rfl, hL⟩
  · have i0 : iAny fe ls S = .ok (.tup ws) S1 := by simp only [iAny, hf, Res.bind, walkW, NoX]
    obtain ⟨S', e3, a3, n3, k3⟩ := lcGo_K (it := .tup ws) (g := g) (e := e) (l0 := S1.length) (ls := wipeL ls vs) (fun _ => True) (fun _ _ _ => rfl) (fun _ _ _ _ => trivial) (fun _ _ _ => trivial) hl he ws.length 0 (S1 ++ [.lst []]) [] (Nat.zero_add _) hl0 trivial (by simp only [List.length_nil]; omega)
    refine ⟨S', ?_, by rw [a3]; simp, by simp at n3; omega, fun j hj => ?_⟩
    · simp only [eLc, i0, Res.bind, itFuel, e3]
    · rw [k3 j (by simp; omega) (by omega), List.getElem?_append_left hj]
  · have hlt := (List.getElem?_eq_some_iff.mp hL).1
    have i0 : iAny fe ls S = .ok (.lst L) S1 := by simp only [iAny, hf, Res.bind, walkW, hL, NoX]
    obtain ⟨S', e3, a3, n3, k3⟩ := lcGo_K (it := .lst L) (g := g) (e := e) (l0 := S1.length) (ls := wipeL ls vs) (fun S => S[L]? = some (.lst ws)) (fun i S h => by simp only [itNext, h]) (fun S S' k h => k.at h) (fun S acc h => by rw [List.getElem?_set_ne (by omega)]; exact h) hl he ws.length 0 (S1 ++ [.lst []]) [] (Nat.zero_add _) hl0 (by rw [List.getElem?_append_left hlt]; exact hL) (by simp only [List.length_nil]; omega)
    refine ⟨S', ?_, by rw [a3]; simp, by simp at n3; omega, fun j hj => ?_⟩
    · have fl : itFuel (.lst L) S1 = ws.length + 1 := by simp only [itFuel, hL]
      simp only [eLc, i0, Res.bind, fl, e3]
    · rw [k3 j (by simp; omega) (by omega), List.getElem?_append_left hj]
end
/-! ### what a channel tells -/
section
variable {S : Sto} {L : LSt} {f : EM} {c o : Nat} {l d : Bool}
theorem cap_ok (hf : f L S = .ok (chn' c l d o) S) : eAx at17_capacity at17_capacityx f L S = .ok (.int (c : Int)) S := by
  unfold chn' at hf; simp [hf, at17_capacity]
theorem fau_ok {V : Sto} (hf : f L V = .ok (chn' c l d o) S) : eAx at15_faults at15_faultsx f L V = .ok (.tup (fsOf l d o)) S := by
  unfold chn' at hf; simp [hf, at15_faults]
theorem fs_l : (fsOf l d o).any (fun u => feq u (.ins 5 [])) = l := by
  unfold fsOf
  by_cases h : 0 < o <;> cases l <;> cases d <;> simp [h, feq]
theorem fs_d : (fsOf l d o).any (fun u => feq u (.ins 6 [])) = d := by
  unfold fsOf
  by_cases h : 0 < o <;> cases l <;> cases d <;> simp [h, feq]
theorem loses_ok (ho : o ≤ 2) : v_Channel_loses [chn' c l d o] S = .ok (.bl l) (S ++ [.dead]) := by
  have a := fau_ok (f := vget 0) (L := [some (chn' c l d o)]) (S := S ++ [.dead]) (V := S ++ [.dead]) (c := c) (l := l) (d := d) (o := o) rfl
  have i := inOp_ok (S := S ++ [.dead]) Fk.l (fs_fk (l := l) (d := d) ho)
  rw [fs_l] at i
  exact congrArg runB (ret_ok (bin_ok new_l a i))
theorem doubles_ok (ho : o ≤ 2) : v_Channel_doubles [chn' c l d o] S = .ok (.bl d) (S ++ [.dead]) := by
  have a := fau_ok (f := vget 0) (L := [some (chn' c l d o)]) (S := S ++ [.dead]) (V := S ++ [.dead]) (c := c) (l := l) (d := d) (o := o) rfl
  have i := inOp_ok (S := S ++ [.dead]) Fk.d (fs_fk (l := l) (d := d) ho)
  rw [fs_d] at i
  exact congrArg runB (ret_ok (bin_ok new_d a i))
def is7 : W → Bool
  | .ins 7 _ => true
  | _ => false
def by7 : W → W
  | .ins 7 [w] => w
  | _ => .non
theorem fs_o : ((fsOf l d o).filter is7).map by7 = if 0 < o then [.int (o : Int)] else [] := by
  unfold fsOf
  by_cases h : 0 < o <;> cases l <;> cases d <;> simp [h, is7, by7]
theorem over_ok (ho : o ≤ 2) : v_Channel_overtakes [chn' c l d o] S = .ok (.int (o : Int)) (S ++ [.lst (if 0 < o then [.int (o : Int)] else [])]) := by
  obtain ⟨L, hL⟩ : ∃ L : LSt, L = [some (chn' c l d o), none] := ⟨_, rfl⟩
  have a := fau_ok (f := vget 0) (L := L) (S := S) (V := S) (c := c) (l := l) (d := d) (o := o) (by rw [hL]; rfl)
  have lc := eLcM (S := S) (ls := L) (g := cN 1) (t := tst (eCall (isiA 9 clsX clsSub) (aCons (vget 1) (aCons (cst (.glo 7)) aNil)))) (e := eAx at10_by at10_byx (vget 1)) (vs := [1]) is7 by7 a (Nat.le_trans fs_len (by decide)) fun w hw => by
    obtain ⟨n, h⟩ := fs_fk ho w hw
    refine ⟨_, rfl, fun U => ?_⟩
    have v1 : vget 1 ((wipeL L [1]).set 1 (some w)) U = .ok w U := by rw [hL]; rfl
    have i : isiA 9 clsX clsSub [w, .glo 7] U = .ok (.bl (is7 w)) U := by cases h <;> simp [clsX, clsSub, is7]
    refine ⟨tst_ok (call_ok (a_c v1 (a_1 rfl)) i), fun hp => ?_⟩
    cases h with
    | l => cases hp
    | d => cases hp
    | o hb =>
      simp only [eAx, v1, Res.bind]
      simp [at10_by, by7]
  rw [fs_o] at lc
  have g : (S ++ [Ob.lst (if 0 < o then [W.int (o : Int)] else [])])[S.length]? = some (.lst (if 0 < o then [W.int (o : Int)] else [])) := by simp
  have sm : sumW (.loc S.length) (S ++ [Ob.lst (if 0 < o then [W.int (o : Int)] else [])]) = .ok (.int (o : Int)) (S ++ [Ob.lst (if 0 < o then [W.int (o : Int)] else [])]) := by
    have q : (lstOf S.length (S ++ [Ob.lst (if 0 < o then [W.int (o : Int)] else [])])).bind asInts = some (if 0 < o then [(o : Int)] else []) := by
      simp only [lstOf, g, Option.bind_some]
      by_cases h : 0 < o <;> simp [h]
    simp only [sumW, q]
    by_cases h : 0 < o
    · simp [h]
    · obtain rfl : o = 0 := by omega
      simp
  have key := congrArg runB (ret_ok (call1_ok lc sm))
  rw [hL] at key
  exact key
theorem at_l (ho : o ≤ 2) (hf : f L S = .ok (chn' c l d o) S) : ∃ S', eAx at21_loses at21_losesx f L S = .ok (.bl l) S' ∧ Kp S S' := by
  have e := loses_ok (S := S) (c := c) (l := l) (d := d) ho
  refine ⟨S ++ [.dead], ?_, Kp.app _⟩
  unfold chn' at hf e
  simp [-v_Channel_loses, hf, at21_loses, e]
theorem at_d (ho : o ≤ 2) (hf : f L S = .ok (chn' c l d o) S) : ∃ S', eAx at20_doubles at20_doublesx f L S = .ok (.bl d) S' ∧ Kp S S' := by
  have e := doubles_ok (S := S) (c := c) (l := l) (d := d) ho
  refine ⟨S ++ [.dead], ?_, Kp.app _⟩
  unfold chn' at hf e
  simp [-v_Channel_doubles, hf, at20_doubles, e]
theorem at_o (ho : o ≤ 2) (hf : f L S = .ok (chn' c l d o) S) : ∃ S', eAx at16_overtakes at16_overtakesx f L S = .ok (.int (o : Int)) S' ∧ Kp S S' := by
  have e := over_ok (S := S) (c := c) (l := l) (d := d) ho
  refine ⟨S ++ [.lst (if 0 < o then [.int (o : Int)] else [])], ?_, Kp.app _⟩
  unfold chn' at hf e
  simp [-v_Channel_overtakes, hf, at16_overtakes, e]
theorem told_ch (ho : o ≤ 2) : ∃ S', v__law_told [chn' c l d o] S = .ok (tl4 c l d o) S' ∧ Kp S S' := by
  obtain ⟨L, hL⟩ : ∃ L : LSt, L = [some (chn' c l d o)] := ⟨_, rfl⟩
  have v0 : ∀ U, vget 0 L U = .ok (chn' c l d o) U := fun U => by rw [hL]; rfl
  obtain ⟨S1, e1, k1⟩ := at_l ho (v0 S)
  obtain ⟨S2, e2, k2⟩ := at_d ho (v0 S1)
  obtain ⟨S3, e3, k3⟩ := at_o ho (v0 S2)
  refine ⟨S3, ?_, (k1.trans k2).trans k3⟩
  have t := tup_ok (a_c (cap_ok (v0 S)) (a_c e1 (a_c e2 (a_1 e3)))) (by simp)
  rw [hL] at t
  exact congrArg runB (ret_ok t)
end
end
end Lw
set_option Elab.async false
set_option linter.all false
set_option maxRecDepth 100000
set_option maxHeartbeats 0
namespace Lw
noncomputable section
open PySem PySem.Spec PyProof.Rows L2 Mp
section
variable {S : Sto} {ls : LSt}
theorem vor_b {f g : EM} {a b : Bool} {S1 : Sto} (h1 : f ls S = .ok (.bl a) S1) (k1 : Kp S S1) (h2 : ∃ S2, g ls S1 = .ok (.bl b) S2 ∧ Kp S1 S2) : ∃ S', vOr f g ls S = .ok (.bl (a || b)) S' ∧ Kp S S' := by
  obtain ⟨S2, e2, k2⟩ := h2
  cases a with
  | true => exact ⟨S1, by simp only [vOr, h1, Res.bind, truth, NoX, if_true, Bool.true_or], k1⟩
  | false => exact ⟨S2, by simp only [vOr, h1, Res.bind, truth, NoX, Bool.false_eq_true, if_false, e2, Bool.false_or], k1.trans k2⟩
theorem vand_b {f g : EM} {a b : Bool} {S1 : Sto} (h1 : f ls S = .ok (.bl a) S1) (k1 : Kp S S1) (h2 : ∃ S2, g ls S1 = .ok (.bl b) S2 ∧ Kp S1 S2) : ∃ S', vAnd f g ls S = .ok (.bl (a && b)) S' ∧ Kp S S' := by
  obtain ⟨S2, e2, k2⟩ := h2
  cases a with
  | true => exact ⟨S2, vand_t h1 e2, k1.trans k2⟩
  | false => exact ⟨S1, vand_f h1, k1⟩
end
/-! ### what holds at each store with these lists: expressions and tests put together -/
def HasL (hs : List (Nat × List W)) (V : Sto) : Prop := ∀ p ∈ hs, V[p.1]? = some (.lst p.2)
theorem HasL.kp {hs : List (Nat × List W)} {V V' : Sto} (h : HasL hs V) (k : Kp V V') : HasL hs V' := fun p hp => k.at (h p hp)
def TE (L : LSt) (hs : List (Nat × List W)) (f : EM) (w : W) : Prop := ∀ V : Sto, HasL hs V → ∃ V', f L V = .ok w V' ∧ Kp V V'
def TT (L : LSt) (hs : List (Nat × List W)) (t : TM) (b : Bool) : Prop := ∀ V : Sto, HasL hs V → ∃ V', t L V = .ok b V' ∧ Kp V V'
def TA (L : LSt) (hs : List (Nat × List W)) (A : AM) (ws : List W) : Prop := ∀ V : Sto, HasL hs V → ∃ V', A L V = .ok ws V' ∧ Kp V V'
section
variable {L : LSt} {hs : List (Nat × List W)} {f g : EM} {v u w : W} {A : AM} {ws zs : List W} {t t' : TM} {a b : Bool}
theorem TA.nil : TA L hs aNil [] := fun V _ => ⟨V, rfl, .refl⟩
theorem TA.cons (h : TE L hs f w) (h2 : TA L hs A ws) : TA L hs (aCons f A) (w :: ws) := fun V c => by
  obtain ⟨V1, e1, k1⟩ := h V c
  obtain ⟨V2, e2, k2⟩ := h2 V1 (c.kp k1)
  exact ⟨V2, a_c e1 e2, k1.trans k2⟩
theorem TE.get {i : Nat} (h : L[i]? = some (some w)) : TE L hs (vget i) w := fun V _ => ⟨V, by simp [h], .refl⟩
theorem TE.cst : TE L hs (Mp.cst w) w := fun V _ => ⟨V, rfl, .refl⟩
theorem TE.bin {op : W → W → M W} (h1 : TE L hs f v) (h2 : TE L hs g u) (h3 : ∀ V, ∃ V', op v u V = .ok w V' ∧ Kp V V') : TE L hs (Mp.bin op f g) w := fun V c => by
  obtain ⟨V1, e1, k1⟩ := h1 V c
  obtain ⟨V2, e2, k2⟩ := h2 V1 (c.kp k1)
  obtain ⟨V3, e3, k3⟩ := h3 V2
  exact ⟨V3, bin_ok e1 e2 e3, (k1.trans k2).trans k3⟩
theorem TE.ix {i j q : Nat} (h : L[i]? = some (some (.loc q))) (hq : (q, ws) ∈ hs) (hw : ws[j]? = some w) : TE L hs (Mp.bin ixW (vget i) (Mp.cst (.int (j : Int)))) w := fun V c => ⟨V, bin_ok (v := .loc q) (by simp [h]) rfl (ix_l (c _ hq) hw), .refl⟩
theorem TE.ixt {i j : Nat} (h : L[i]? = some (some (.tup ws))) (hw : ws[j]? = some w) : TE L hs (Mp.bin ixW (vget i) (Mp.cst (.int (j : Int)))) w := fun V c => ⟨V, bin_ok (v := .tup ws) (by simp [h]) rfl (ix_t hw), .refl⟩
theorem TE.fn {n : Nat} {ds : List W} {G : BM} (hA : TA L hs A ws) (hn : ws.length + ds.length = n) (h : ∀ V, ∃ V', G (ws ++ ds) V = .ok w V' ∧ Kp V V') : TE L hs (eFn (defM n ds G) A) w := fun V c => by
  obtain ⟨V1, e1, k1⟩ := hA V c
  obtain ⟨V2, e2, k2⟩ := h V1
  exact ⟨V2, fn_ok e1 hn e2, k1.trans k2⟩
theorem TE.tup (hA : TA L hs A ws) (hb : ws.length ≤ 1000) : TE L hs (eTup A) (.tup ws) := fun V c => by
  obtain ⟨V1, e1, k1⟩ := hA V c
  exact ⟨V1, tup_ok e1 hb, k1⟩
theorem TE.call {o : BM} (hA : TA L hs A ws) (h : ∀ V, ∃ V', o ws V = .ok w V' ∧ Kp V V') : TE L hs (eCall o A) w := fun V c => by
  obtain ⟨V1, e1, k1⟩ := hA V c
  obtain ⟨V2, e2, k2⟩ := h V1
  exact ⟨V2, call_ok e1 e2, k1.trans k2⟩
theorem TE.and (h1 : TE L hs f (.bl a)) (h2 : TE L hs g (.bl b)) : TE L hs (vAnd f g) (.bl (a && b)) := fun V c => by
  obtain ⟨V1, e1, k1⟩ := h1 V c
  exact vand_b e1 k1 (h2 V1 (c.kp k1))
theorem TE.or (h1 : TE L hs f (.bl a)) (h2 : TE L hs g (.bl b)) : TE L hs (vOr f g) (.bl (a || b)) := fun V c => by
  obtain ⟨V1, e1, k1⟩ := h1 V c
  exact vor_b e1 k1 (h2 V1 (c.kp k1))
theorem TE.not (h : TE L hs f (.bl a)) : TE L hs (vNot f) (.bl (!a)) := fun V c => by
  obtain ⟨V1, e1, k1⟩ := h V c
  exact ⟨V1, by simp only [vNot, e1, Res.bind, truth, NoX], k1⟩
theorem TT.tst (h : TE L hs f (.bl b)) : TT L hs (Mp.tst f) b := fun V c => by
  obtain ⟨V1, e1, k1⟩ := h V c
  exact ⟨V1, tst_ok e1, k1⟩
theorem TT.b1 (h : TE L hs f (.bl b)) : TT L hs (tB1 f) b := fun V c => by
  obtain ⟨V1, e1, k1⟩ := h V c
  exact ⟨V1, by simp only [tB1, e1, Res.bind, NoX], k1⟩
theorem TT.not (h : TT L hs t b) : TT L hs (mNot t) (!b) := fun V c => by
  obtain ⟨V1, e1, k1⟩ := h V c
  exact ⟨V1, not_ok e1, k1⟩
theorem TT.or (h1 : TT L hs t a) (h2 : TT L hs t' b) : TT L hs (mOr t t') (a || b) := fun V c => by
  obtain ⟨V1, e1, k1⟩ := h1 V c
  cases a with
  | true => exact ⟨V1, or_t e1, k1⟩
  | false =>
    obtain ⟨V2, e2, k2⟩ := h2 V1 (c.kp k1)
    exact ⟨V2, or_f e1 (by rw [e2]; rfl), k1.trans k2⟩
theorem TT.and (h1 : TT L hs t a) (h2 : TT L hs t' b) : TT L hs (mAnd t t') (a && b) := fun V c => by
  obtain ⟨V1, e1, k1⟩ := h1 V c
  cases a with
  | true =>
    obtain ⟨V2, e2, k2⟩ := h2 V1 (c.kp k1)
    exact ⟨V2, and_t e1 (by rw [e2]; rfl), k1.trans k2⟩
  | false => exact ⟨V1, and_f e1, k1⟩
theorem TT.ifn {B : SM} (h : TT L hs t b) (hb : b = false) {V : Sto} (c : HasL hs V) : ∃ V', sIf t B sNop L V = .nx L V' ∧ Kp V V' := by
  obtain ⟨V1, e1, k1⟩ := h V c
  subst hb
  exact ⟨V1, if_n e1, k1⟩
abbrev repO : BM := elsB (b1 reprI) (b1 reprD)
theorem rep_t {V : Sto} {ws : List W} {ds : List PyData} (g : dat V 40 (.tup ws) = some (.tuple ds)) (hs : (PyData.tuple ds).showable = true ∧ (PyData.tuple ds).shown.length ≤ 1000) : repO [.tup ws] V = .ok (.str (PyData.tuple ds).shown) V := by
  have hb : (PyData.tuple ds).shown.length ≤ big := Nat.le_trans hs.2 (by unfold big; omega)
  have q : reprD (.tup ws) V = .ok (.str (PyData.tuple ds).shown) V := by
    simp only [reprD, g]
    show (if _ then _ else _) = _
    rw [if_pos ⟨hs.1, hb⟩]
  have q0 : (b1 reprI) [W.tup ws] V = .stuck := rfl
  have q1 : (b1 reprD) [W.tup ws] V = reprD (.tup ws) V := rfl
  simp only [elsB, q0, q1, q]
theorem TE.ne_s {x : Str} (h1 : TE L hs f (.str x)) (h2 : TE L hs g (.str x)) : TE L hs (Mp.bin neT f g) (.bl false) := TE.bin h1 h2 fun V => ⟨V, by
  have ns := ne_ss (Y := eqO true 9 clsSub du19__eq__) (a := x) (b := x) (S := V)
  rw [decide_eq_true rfl] at ns
  exact ns, .refl⟩
end
/-! ### parts of channels -/
structure Pt where
  c : Nat
  l : Bool
  d : Bool
  o : Nat
  deriving DecidableEq
namespace Pt
def ok (p : Pt) : Prop := (1 ≤ p.c ∧ p.c ≤ 3) ∧ p.o ≤ 2
def fs (p : Pt) : List W := [.int (p.c : Int), .tup (fsOf p.l p.d p.o)]
def ch (p : Pt) : W := .ins 8 p.fs
def tl (p : Pt) : List W := [.int (p.c : Int), .bl p.l, .bl p.d, .int (p.o : Int)]
def t4 (p : Pt) : W := .tup p.tl
def dt (p : Pt) : PyData := .tuple [.int (p.c : Int), .bool p.l, .bool p.d, .int (p.o : Int)]
theorem ch_eq (p : Pt) : p.ch = chn' p.c p.l p.d p.o := rfl
theorem t4_eq (p : Pt) : p.t4 = tl4 p.c p.l p.d p.o := rfl
end Pt
theorem dt_sh {p : Pt} (hp : p.ok) : p.dt.showable = true ∧ p.dt.shown.length ≤ 1000 := by
  obtain ⟨c, l, d, o⟩ := p
  obtain ⟨hc, ho⟩ := hp
  simp only at hc ho
  have h1 : c = 1 ∨ c = 2 ∨ c = 3 := by omega
  have h2 : o = 0 ∨ o = 1 ∨ o = 2 := by omega
  rcases h1 with rfl | rfl | rfl <;> rcases h2 with rfl | rfl | rfl <;> cases l <;> cases d <;> decide +kernel
/-! ### compared -/
instance decW : DecidableEq W := fun a b => Classical.propDecidable (a = b)
section
variable {V : Sto} {x y : W} {n m : Nat} {a b : Pt} {L : LSt} {hs : List (Nat × List W)} {f g : EM}
theorem feq_iff (hx : Fk x n) (hy : Fk y m) : feq x y = decide (x = y) := by
  cases hx <;> cases hy <;> simp [feq]
theorem its_gen : ∀ xs ys : List W, (∀ x ∈ xs, ∃ n, Fk x n) → (∀ x ∈ ys, ∃ n, Fk x n) → itsE 9 clsSub du12__eq__ V xs ys = some (decide (xs = ys))
  | [], [], _, _ => by simp [itsE]
  | [], _ :: _, _, _ => by simp [itsE]
  | _ :: _, [], _, _ => by simp [itsE]
  | x :: xs, y :: ys, h1, h2 => by
    obtain ⟨n, hx⟩ := h1 x (by simp)
    obtain ⟨m, hy⟩ := h2 y (by simp)
    unfold itsE
    rw [itF hx hy, feq_iff hx hy]
    by_cases e : x = y
    · subst e
      rw [decide_eq_true rfl]
      simp only [its_gen xs ys (fun z hz => h1 z (List.mem_cons_of_mem _ hz)) (fun z hz => h2 z (List.mem_cons_of_mem _ hz))]
      by_cases q : xs = ys <;> simp [q]
    · rw [decide_eq_false e]
      simp [e]
theorem dat_ne {x : W} {xs : List W} (h : ∃ n, Fk x n) : dat V 40 (.tup (x :: xs)) = none := by
  obtain ⟨n, f⟩ := h
  have hd : dat V 39 x = none := by cases f <;> exact dat_ins
  show (optAll (dat V 39) (x :: xs)).map PyData.tuple = none
  simp only [optAll, hd]; rfl
theorem eqF_gen (xs ys : List W) (h1 : ∀ x ∈ xs, ∃ n, Fk x n) (h2 : ∀ x ∈ ys, ∃ n, Fk x n) : eqF (.tup xs) (.tup ys) V = .ok (.bl (decide (xs = ys))) V := by
  have i := its_gen (V := V) xs ys h1 h2
  have e2 : els (eqO false 9 clsSub du12__eq__) (eqR 9 du12__eq__) (.tup xs) (.tup ys) V = .stuck := rfl
  have e3 : seqT false 9 clsSub du12__eq__ (.tup xs) (.tup ys) V = .ok (.bl (decide (xs = ys))) V := by
    simp only [seqT, i]; rfl
  match xs, ys with
  | [], [] => rfl
  | [], y :: ys =>
    have e1 : datE false (.tup []) (.tup (y :: ys)) V = .stuck := by
      simp only [datE, dat_ne (V := V) (h2 y (by simp))]
      cases dat V 40 (.tup []) <;> rfl
    exact els_2 e1 (els_2 e2 (els_1 e3))
  | x :: xs, ys =>
    have e1 : datE false (.tup (x :: xs)) (.tup ys) V = .stuck := by simp only [datE, dat_ne (V := V) (h1 x (by simp))]
    exact els_2 e1 (els_2 e2 (els_1 e3))
theorem fs_inj {l d l' d' : Bool} {o o' : Nat} : fsOf l d o = fsOf l' d' o' ↔ l = l' ∧ d = d' ∧ (o = o' ∨ (o = 0 ∧ o' = 0)) := by
  unfold fsOf
  by_cases h : 0 < o <;> by_cases h' : 0 < o' <;> cases l <;> cases d <;> cases l' <;> cases d' <;> simp [h, h'] <;> omega
theorem pt_iff : (a.c = b.c ∧ fsOf a.l a.d a.o = fsOf b.l b.d b.o) ↔ a = b := by
  obtain ⟨c, l, d, o⟩ := a
  obtain ⟨c', l', d', o'⟩ := b
  simp only [fs_inj, Pt.mk.injEq]
  constructor
  · rintro ⟨h1, h2, h3, h4⟩
    exact ⟨h1, h2, h3, by omega⟩
  · rintro ⟨h1, h2, h3, h4⟩
    exact ⟨h1, h2, h3, .inl h4⟩
theorem eqm_g (ha : a.ok) (hb : b.ok) : v_Channel___eq__ [a.ch, b.ch] V = .ok (.bl (decide (a = b))) V := by
  have i : isiA 9 clsX clsSub [b.ch, .glo 8] V = .ok (.bl true) V := by unfold Pt.ch; simp [clsX, clsSub]
  have f0 : eAx at17_capacity at17_capacityx (vget 0) [some a.ch, some b.ch] V = .ok (.int (a.c : Int)) V := by unfold Pt.ch Pt.fs; simp [at17_capacity]
  have f1 : eAx at17_capacity at17_capacityx (vget 1) [some a.ch, some b.ch] V = .ok (.int (b.c : Int)) V := by unfold Pt.ch Pt.fs; simp [at17_capacity]
  have g0 : eAx at15_faults at15_faultsx (vget 0) [some a.ch, some b.ch] V = .ok (.tup (fsOf a.l a.d a.o)) V := by unfold Pt.ch Pt.fs; simp [at15_faults]
  have g1 : eAx at15_faults at15_faultsx (vget 1) [some a.ch, some b.ch] V = .ok (.tup (fsOf b.l b.d b.o)) V := by unfold Pt.ch Pt.fs; simp [at15_faults]
  have q := eq_nn (Y := els (els (eqO false 9 clsSub du12__eq__) (eqR 9 du12__eq__)) (els (seqT false 9 clsSub du12__eq__) (lenN false))) (n := a.c) (m := b.c) (V := V)
  have aa : eCall (isiA 9 clsX clsSub) (aCons (vget 1) (aCons (cst (.glo 8)) aNil)) [some a.ch, some b.ch] V = .ok (.bl true) V := call_ok (a_c rfl (a_1 rfl)) i
  have e := pt_iff (a := a) (b := b)
  by_cases hc : a.c = b.c
  · rw [decide_eq_true hc] at q
    have z : decide (a = b) = decide (fsOf a.l a.d a.o = fsOf b.l b.d b.o) := by
      rw [decide_eq_decide]; rw [← e]; simp [hc]
    rw [z]
    exact congrArg runB (ret_ok (vand_t aa (vand_t (bin_ok f0 f1 q) (bin_ok g0 g1 (eqF_gen _ _ (fs_fk ha.2) (fs_fk hb.2))))))
  · rw [decide_eq_false hc] at q
    have z : decide (a = b) = false := decide_eq_false fun h => hc (h ▸ rfl)
    rw [z]
    exact congrArg runB (ret_ok (vand_t aa (vand_f (bin_ok f0 f1 q))))
theorem eq_g (ha : a.ok) (hb : b.ok) : eqT a.ch b.ch V = .ok (.bl (decide (a = b))) V := by
  have e := eqm_g (V := V) ha hb
  unfold Pt.ch at e ⊢
  refine els_2 rfl (els_1 ?_)
  simp [-v_Channel___eq__, eqO, objV, du19__eq__, kdW, nfK, clsSub, defM, e]
theorem ne_g (ha : a.ok) (hb : b.ok) : neT a.ch b.ch V = .ok (.bl (!decide (a = b))) V := by
  have e := eqm_g (V := V) ha hb
  unfold Pt.ch at e ⊢
  refine els_2 rfl ?_
  simp [-v_Channel___eq__, eqO, objV, du19__eq__, kdW, nfK, clsSub, defM, e]
theorem dat_t4 : dat V 40 a.t4 = some a.dt := rfl
theorem eqv_dt : PyData.eqv a.dt b.dt = decide (a = b) := by
  obtain ⟨c, l, d, o⟩ := a
  obtain ⟨c', l', d', o'⟩ := b
  unfold Pt.dt
  simp only [PyData.eqv, PyData.eqvAll, Pt.mk.injEq]
  by_cases h1 : c = c' <;> by_cases h2 : o = o' <;> cases l <;> cases l' <;> cases d <;> cases d' <;> simp [h1, h2] <;> omega
theorem eq_t : eqT a.t4 b.t4 V = .ok (.bl (decide (a = b))) V := els_1 (by rw [datE_ok dat_t4 dat_t4, eqv_dt]; rfl)
theorem ne_t : neT a.t4 b.t4 V = .ok (.bl (!decide (a = b))) V := els_1 (by rw [datE_ok dat_t4 dat_t4, eqv_dt]; rfl)
theorem ne_b {x : Bool} : neT (.bl x) (.bl x) V = .ok (.bl false) V := els_1 (by
  rw [datE_ok (d := .bool x) (e := .bool x) rfl rfl]
  cases x <;> rfl)
abbrev neL : W → W → M W := els (datE true) (els (eqO true 9 clsSub du19__eq__) (seqL true 9 clsSub du19__eq__))
theorem ite19 {c : Nat} {fs : List W} {g : BM} (h1 : du19__eq__ c = some g) (h2 : nfK 9 clsSub c (.c c) = true ∧ c < 9 ∧ c < 9 ∧ clsSub c c = true) (h3 : fs.all simW = true) (h4 : g [.ins c fs, .ins c fs] V = .ok (.bl true) V) : itE 9 clsSub du19__eq__ V (.ins c fs) (.ins c fs) = some true := by
  unfold itE
  simp only [h1, h4]
  rw [if_pos ⟨h2.1, h2.2.1, h2.2.2.1, h2.2.2.2, h3, h3⟩]
  simp
theorem it19 (hx : Fk x n) : itE 9 clsSub du19__eq__ V x x = some true := by
  cases hx with
  | l => exact ite19 (g := defM 2 [] v_Loses___eq__) rfl nf5 rfl eqs_l
  | d => exact ite19 (g := defM 2 [] v_Doubles___eq__) rfl nf6 rfl eqs_d
  | o h => exact ite19 (g := defM 2 [] v_Overtakes___eq__) rfl nf7 rfl eqs_o
theorem its19 : ∀ xs : List W, (∀ x ∈ xs, ∃ n, Fk x n) → itsE 9 clsSub du19__eq__ V xs xs = some true
  | [], _ => rfl
  | x :: xs, h => by
    obtain ⟨n, f⟩ := h x (by simp)
    unfold itsE
    rw [it19 f]
    exact its19 xs fun y hy => h y (List.mem_cons_of_mem _ hy)
theorem neL_ok {p q : Nat} {xs : List W} (hp : V[p]? = some (.lst xs)) (hq : V[q]? = some (.lst xs)) (h : ∀ x ∈ xs, ∃ n, Fk x n) : neL (.loc p) (.loc q) V = .ok (.bl false) V := by
  cases xs with
  | nil =>
    refine els_1 ?_
    have d1 : dat V 40 (.loc p) = some (.list []) := by simp only [dat, hp]; rfl
    have d2 : dat V 40 (.loc q) = some (.list []) := by simp only [dat, hq]; rfl
    rw [datE_ok d1 d2]; rfl
  | cons x xs =>
    obtain ⟨n, f⟩ := h x (by simp)
    have hd : dat V 39 x = none := by cases f <;> exact dat_ins
    have d1 : dat V 40 (.loc p) = none := by simp only [dat, hp, optAll, hd]; rfl
    have e1 : datE true (.loc p) (.loc q) V = .stuck := by simp only [datE, d1]
    have e2 : eqO true 9 clsSub du19__eq__ (.loc p) (.loc q) V = .stuck := by simp [eqO, objV, hp]
    have e3 : seqL true 9 clsSub du19__eq__ (.loc p) (.loc q) V = .ok (.bl false) V := by
      simp only [seqL, lstOf, hp, hq, its19 (x :: xs) h]; rfl
    exact els_2 e1 (els_2 e2 e3)
/-! ### own things that are walked -/
theorem iter_ok : v_Channel___iter__ [a.ch] V = .ok (.tup (fsOf a.l a.d a.o)) V := by
  unfold Pt.ch Pt.fs
  simp [v_Channel___iter__, at15_faults]
theorem walk_ch {i : Nat} (h : L[i]? = some (some a.ch)) : iEl (iAny (vget i)) (iOwn it23__iter__ (vget i)) L V = .ok (.tup (fsOf a.l a.d a.o)) V := by
  have v : vget i L V = .ok a.ch V := by simp [h]
  have e := iter_ok (V := V) (a := a)
  have e1 : iAny (vget i) L V = .stuck := by simp only [iAny, v, Res.bind]; rfl
  have e2 : iOwn it23__iter__ (vget i) L V = .ok (.tup (fsOf a.l a.d a.o)) V := by
    have o1 : objV a.ch V = some (8, a.fs) := rfl
    have i8 : it23__iter__ 8 = some v_Channel___iter__ := rfl
    simp only [iOwn, v, Res.bind, walkO, o1, i8, e, NoX]
  simp only [iEl, e1, e2]
theorem eLc_it {fi : LSt → M ItW} {g : GW} {e : EM} {vs : List Nat} {ls : LSt} {S S1 : Sto} {ws ys : List W} (i0 : fi ls S = .ok (.tup ws) S1) (hl : ws.length = ys.length) (hb : ws.length ≤ 1000)
    (he : ∀ (i : Nat) (w y : W), ws[i]? = some w → ys[i]? = some y → ∃ ls2, g w (wipeL ls vs) = some ls2 ∧ ∀ U, e ls2 U = .ok y U) : eLc fi g tTrue e vs ls S = .ok (.loc S1.length) (S1 ++ [.lst ys]) := by
  have bN := bigN
  have hl0 : (S1 ++ [Ob.lst []])[S1.length]? = some (Ob.lst []) := by simp
  have e3 : (S1 ++ [Ob.lst []]).set S1.length (Ob.lst ([] ++ ys.drop 0)) = S1 ++ [.lst ys] := by
    rw [List.set_append_right _ _ (Nat.le_refl _)]
    simp
  have k := lcGo_ys (it := .tup ws) (g := g) (e := e) (l0 := S1.length) (ls := wipeL ls vs) (fun _ => True) (fun _ _ _ => rfl) (fun _ _ _ => trivial) hl (fun i w y h1 h2 => let ⟨a, b, c⟩ := he i w y h1 h2; ⟨a, b, fun S _ => c S⟩) ws.length 0 (S1 ++ [.lst []]) [] (Nat.zero_add _) trivial hl0 (by simp only [List.length_nil]; omega)
  rw [e3] at k
  simp only [eLc, i0, Res.bind, itFuel, k]
theorem list_ch : listO it23__iter__ a.ch V = .ok (.loc V.length) (V ++ [.lst (fsOf a.l a.d a.o)]) := by
  have e := iter_ok (V := V ++ [Ob.lst []]) (a := a)
  have o1 : ∀ U, objV a.ch U = some (8, a.fs) := fun U => rfl
  have b : (fsOf a.l a.d a.o).length ≤ big := Nat.le_trans fs_len (by unfold big; omega)
  have l0 : lstOf V.length (V ++ [Ob.lst []]) = some [] := by simp [lstOf]
  simp only [listO, o1]
  have i8 : it23__iter__ 8 = some v_Channel___iter__ := rfl
  simp only [i8, e, NoX, Res.bind]
  rw [if_pos ⟨trivial, b⟩]
  simp only [l0]
  simp
end
end
end Lw
set_option Elab.async false
set_option linter.all false
set_option maxRecDepth 100000
set_option maxHeartbeats 0
namespace Lw
noncomputable section
open PySem PySem.Spec PyProof.Rows L2 Mp
section
variable {p k : Nat} {S : Sto} {ls : LSt}
theorem ex_drawJ {j m : Nat} {f : EM} (hf : f ls S = .ok (.int (m : Int)) S) (h : PenAt p k S) (hk : k ≤ 1000000) (h0 : ls[j]? = some (some (.loc p))) (hm : 0 < m) (hm2 : m < 1073741824) : ∃ r S', r < m ∧ eFn (defM 2 [] v__law_draw) (aCons (vget j) (aCons f aNil)) ls S = .ok (.int (r : Int)) S' ∧ PenAt p (k + 1) S' ∧ Grow p S S' := by
  obtain ⟨r, S', b1, b2, e, q, g⟩ := draw_ok (many := (m : Int)) h hk (by omega) (by omega)
  refine ⟨r.toNat, S', by omega, ?_, q, g⟩
  have er : ((r.toNat : Nat) : Int) = r := by omega
  rw [er]
  exact fn_ok (a_c (by simp [h0]) (a_1 hf)) rfl e
theorem ex_pickJ {j : Nat} {F : AM} {ws : List W} {S1 : Sto} (hF : F ls S = .ok ws S1) (h0 : ls[j]? = some (some (.loc p))) (h : PenAt p k S1) (hk : k ≤ 1000000) (hw : 0 < ws.length) (hw2 : ws.length ≤ 1000) : ∃ w S', w ∈ ws ∧ eFn (defM 2 [] v__law_pick) (aCons (vget j) (aCons (eLst F) aNil)) ls S = .ok w S' ∧ PenAt p (k + 1) S' ∧ Grow p S1 S' := by
  have b : ws.length ≤ big := Nat.le_trans hw2 big1000
  have lt := h.lt
  obtain ⟨w, S', hm, e, q, g⟩ := pick_ok (l := S1.length) (ws := ws) (h.app [.lst ws]) hk (by simp) (by omega) hw (by omega)
  exact ⟨w, S', hm, fn_ok (a_c (by simp [h0]) (a_1 (lst_ok hF hw2))) rfl e, q, (Grow.app _).trans g⟩
theorem four_ok (h : PenAt p k S) (hk : k ≤ 900000) : ∃ c l d o S', v__law_four [.loc p] S = .ok (tl4 c l d o) S' ∧ (1 ≤ c ∧ c ≤ 3) ∧ o ≤ 2 ∧ PenAt p (k + 4) S' ∧ Grow p S S' := by
  have L0 : ([some (.loc p)] : LSt)[0]? = some (some (.loc p)) := rfl
  obtain ⟨r1, S1, b1, e1, p1, g1⟩ := ex_drawJ (j := 0) (m := 3) (ls := [some (.loc p)]) (f := cst (.int 3)) (S := S) rfl h (by omega) L0 (by decide) (by decide)
  obtain ⟨r2, S2, b2, e2, p2, g2⟩ := ex_drawJ (j := 0) (m := 2) (ls := [some (.loc p)]) (f := cst (.int 2)) (S := S1) rfl p1 (by omega) L0 (by decide) (by decide)
  obtain ⟨r3, S3, b3, e3, p3, g3⟩ := ex_drawJ (j := 0) (m := 2) (ls := [some (.loc p)]) (f := cst (.int 2)) (S := S2) rfl p2 (by omega) L0 (by decide) (by decide)
  obtain ⟨r4, S4, b4, e4, p4, g4⟩ := ex_drawJ (j := 0) (m := 3) (ls := [some (.loc p)]) (f := cst (.int 3)) (S := S3) rfl p3 (by omega) L0 (by decide) (by decide)
  have q1 : Mp.bin addW (cst (.int 1)) (eFn (defM 2 [] v__law_draw) (aCons (vget 0) (aCons (cst (.int 3)) aNil))) [some (.loc p)] S = .ok (.int ((r1 + 1 : Nat) : Int)) S1 := bin_ok rfl e1 (by show Res.ok (W.int ((1 : Int) + (r1 : Int))) _ = _; congr 2; omega)
  have q2 := bin_ok (op := eqT) (fb := cst (.int 1)) e2 rfl (eq_nn (n := r2) (m := 1))
  have q3 := bin_ok (op := eqT) (fb := cst (.int 1)) e3 rfl (eq_nn (n := r3) (m := 1))
  refine ⟨r1 + 1, decide (r2 = 1), decide (r3 = 1), r4, S4, ?_, by omega, by omega, p4, ((g1.trans g2).trans g3).trans g4⟩
  exact congrArg runB (ret_ok (tup_ok (a_c q1 (a_c q2 (a_c q3 (a_1 e4)))) (by simp)))
end
theorem pen_ok (sa : Addr) (sn : List Int) (hlen : sn.length ≤ 63) : ∃ S, v__law_pen sa sn [.adr sa] [] = .ok (.loc 2) S ∧ PenAt 2 0 S := by
  obtain ⟨ns, hns, hnl⟩ : ∃ ns : List Int, cutW (sn.map W.int) none (some 63) = ns.map W.int ∧ ns.length ≤ sn.length := by
    refine ⟨(sn.drop (HT.sIx (sn.map W.int).length 0 none)).take (HT.sIx (sn.map W.int).length (sn.map W.int).length (some 63) - HT.sIx (sn.map W.int).length 0 none), ?_, by rw [List.length_take, List.length_drop]; omega⟩
    unfold cutW
    rw [List.map_take, List.map_drop]
  have b6 := big6
  have bl : ns.length ≤ big := by omega
  have b3 : 3 ≤ big := by omega
  refine ⟨[.lst (ns.map W.int), .lst (ns.map W.int), .lst [.loc 1, .int 0, .int 0]], ?_, 1, 0, 0, ns, rfl, rfl, by decide, Nat.le_refl _⟩
  unfold v__law_pen
  simp [-cutW, hns, b3, bl]
/-! ### what is made -/
theorem str24 {w : W} {S : Sto} (h : ∃ n, Fk w n) : strW du24__str__ w S = .ok (.str (strF w)) S := by
  have e := (strF_ok (S := S) (.inr h)).1
  obtain ⟨n, f⟩ := h
  rw [← e]
  cases f <;> rfl
theorem fs_strs {l d : Bool} {o : Nat} : ∀ w ∈ fsOf l d o, (∃ n, Fk w n) → True := fun _ _ _ => trivial
theorem ov_eq (o : Nat) : Str.empty ++ "overtakes " ++ nm o = ("overtakes " : Str) ++ nm o := TL.ext_tl (by simp [TL.tl_append, tl_e])
abbrev lstr (l d : Bool) (o : Nat) : List Str := (if l then [("loses" : Str)] else []) ++ (if d then [("doubles" : Str)] else []) ++ (if 0 < o then [("overtakes " : Str) ++ nm o] else [])
theorem fs_str {l d : Bool} {o : Nat} : (fsOf l d o).map strF = lstr l d o := by
  unfold fsOf
  by_cases h : 0 < o <;> cases l <;> cases d <;> simp [h, strF] <;> exact ov_eq o
theorem rep_one {b : Bool} {z : Str} : (List.replicate (if b then 1 else 0) [W.str z]).flatten = (if b then [z] else []).map W.str := by cases b <;> rfl
abbrev inL : W → W → M W := repL
section
variable {p k : Nat} {V : Sto} {a b : Pt} {L : LSt} {hs : List (Nat × List W)}
theorem TE.told (hp : a.ok) {f : EM} (hf : TE L hs f a.ch) : TE L hs (eFn (defM 1 [] v__law_told) (aCons f aNil)) a.t4 := TE.fn (TA.cons hf TA.nil) rfl fun V => told_ch (S := V) (c := a.c) (l := a.l) (d := a.d) hp.2
theorem TE.chan (hp : a.ok) {f : EM} (hf : TE L hs f a.t4) : TE L hs (eFn (defM 1 [] v__law_channel) (aCons f aNil)) a.ch := TE.fn (TA.cons hf TA.nil) rfl fun V => chan_ok (S := V) (c := a.c) (l := a.l) (d := a.d) hp.1 hp.2
theorem TE.repr (hp : a.ok) {f : EM} (hf : TE L hs f a.t4) : TE L hs (eCall repO (aCons f aNil)) (.str a.dt.shown) := TE.call (TA.cons hf TA.nil) fun V => ⟨V, rep_t (dat_t4 (a := a)) (dt_sh hp), .refl⟩
/-- what channels are not equal to -/
inductive Strange (a : Pt) : W → Sto → Prop where
  | non {V : Sto} : Strange a .non V
  | tup {V : Sto} {ws : List W} : Strange a (.tup ws) V
  | str {V : Sto} {z : Str} : Strange a (.str z) V
  | int {V : Sto} {n : Int} : Strange a (.int n) V
  | lst {V : Sto} {q : Nat} {ws : List W} (h : V[q]? = some (.lst ws)) : Strange a (.loc q) V
  | los {V : Sto} : Strange a (.ins 5 []) V
theorem isi_no {w : W} {b : Bool} (i : isiA 9 clsX clsSub [w, .glo 8] V = .ok (.bl false) V) : v_Channel___eq__ [a.ch, w] V = .ok (.bl false) V := by
  have aa : eCall (isiA 9 clsX clsSub) (aCons (vget 1) (aCons (cst (.glo 8)) aNil)) [some a.ch, some w] V = .ok (.bl false) V := call_ok (a_c rfl (a_1 rfl)) i
  exact congrArg runB (ret_ok (vand_f aa))
theorem Strange.eq {w : W} (h : Strange a w V) : eqT a.ch w V = .ok (.bl false) V := by
  have d : ∀ n, dat V n a.ch = none := fun n => dat_ins
  have e1 : datE false a.ch w V = .stuck := by simp only [datE, d]
  refine els_2 e1 (els_1 ?_)
  have key : ∀ kd, kdW w V = some kd → nfK 9 clsSub 8 kd = true → isiA 9 clsX clsSub [w, .glo 8] V = .ok (.bl false) V → eqO false 9 clsSub du19__eq__ a.ch w V = .ok (.bl false) V := fun kd h1 h2 h3 => by
    have e := isi_no (a := a) (b := true) h3
    have o1 : objV a.ch V = some (8, a.fs) := rfl
    have d8 : du19__eq__ 8 = some (defM 2 [] v_Channel___eq__) := rfl
    have e4 : defM 2 [] v_Channel___eq__ [a.ch, w] V = .ok (.bl false) V := e
    simp only [eqO, o1, d8, h1]
    rw [if_pos ⟨h2, by decide⟩]
    simp only [e4, NoX, Res.bind]
    rfl
  cases h with
  | non => exact key _ rfl (by decide) (by simp [tyNs])
  | tup => exact key _ rfl (by decide) (by simp [tyNs])
  | str => exact key _ rfl (by decide) (by simp [tyNs])
  | int => exact key _ rfl (by decide) (by simp [tyNs])
  | lst h => exact key (.b "list") (by simp [h]) (by decide) (by simp [tyNs, h])
  | los => exact key _ rfl (by decide) (by simp [tyNs, clsSub])
theorem Strange.kp {w : W} {V' : Sto} (h : Strange a w V) (k : Kp V V') : Strange a w V' := by
  cases h with
  | non => exact .non
  | tup => exact .tup
  | str => exact .str
  | int => exact .int
  | lst h => exact .lst (k.at h)
  | los => exact .los
theorem none_ok {q : Nat} {ws : List W} {L : LSt} (hL : L = [some (.loc p), some a.t4, some b.t4, some a.ch, some b.ch, none, some (.loc q), none, none, none]) (hq : V[q]? = some (.lst ws)) (hw : ws.length ≤ 1000) (hs : ∀ w ∈ ws, Strange a w V) : ∃ V', eLc (iAny (vget 6)) (cN 7) (tB1 (Mp.bin eqT (vget 3) (vget 7))) (vget 7) [7] L V = .ok (.loc V.length) V' ∧ V'[V.length]? = some (.lst []) ∧ Kp V V' := by
  have i0 : iAny (vget 6) L V = .ok (.lst q) V := by
    have v : vget 6 L V = .ok (.loc q) V := by rw [hL]; rfl
    simp only [iAny, v, Res.bind, walkW, hq, NoX]
  have lt := (List.getElem?_eq_some_iff.mp hq).1
  obtain ⟨V1, hV1⟩ : ∃ V1, V1 = V ++ [Ob.lst []] := ⟨_, rfl⟩
  have k1 : Kp V V1 := by rw [hV1]; exact Kp.app _
  have hw1 : itFuel (.lst q) V = ws.length + 1 := by simp only [itFuel, hq]
  obtain ⟨V2, e2, p2⟩ := lcGo_none (g := cN 7) (t := tB1 (Mp.bin eqT (vget 3) (vget 7))) (e := vget 7) (l0 := V.length) (ls := wipeL L [7]) (l := q) (ws := ws) (fun U => U = V1) (fun S h => by rw [h]; exact k1.at hq) (fun w hw S h => by
    rw [h]
    have sw := (hs w hw).kp k1
    refine ⟨(wipeL L [7]).set 7 (some w), V1, rfl, ?_, rfl⟩
    have v3 : vget 3 ((wipeL L [7]).set 7 (some w)) V1 = .ok a.ch V1 := by rw [hL]; rfl
    have v7 : vget 7 ((wipeL L [7]).set 7 (some w)) V1 = .ok w V1 := by rw [hL]; rfl
    exact tbin v3 v7 sw.eq) ws.length 0 V1 (Nat.zero_add _) rfl
  refine ⟨V1, ?_, by rw [hV1]; simp, k1⟩
  rw [p2] at e2
  simp only [eLc, i0, Res.bind, hw1]
  rw [← hV1, e2]
theorem ne_nil {q q' : Nat} (h1 : V[q]? = some (.lst [])) (h2 : V[q']? = some (.lst [])) : neT (.loc q) (.loc q') V = .ok (.bl false) V := by
  have d1 : dat V 40 (.loc q) = some (.list []) := by simp only [dat, h1]; rfl
  have d2 : dat V 40 (.loc q') = some (.list []) := by simp only [dat, h2]; rfl
  refine els_1 ?_
  rw [datE_ok d1 d2]; rfl
theorem eqv_strs : ∀ zs : List Str, PyData.eqvAll (zs.map PyData.str) (zs.map PyData.str) = true
  | [] => rfl
  | z :: zs => by
    simp only [List.map_cons, PyData.eqvAll, eqv_strs zs, Bool.and_true]
    rw [eqv_ss]; simp
theorem eq_sl {q q' : Nat} {zs : List Str} (h1 : V[q]? = some (.lst (zs.map W.str))) (h2 : V[q']? = some (.lst (zs.map W.str))) : eqT (.loc q) (.loc q') V = .ok (.bl true) V := by
  refine els_1 ?_
  rw [datE_ok (dat_slst h1) (dat_slst h2)]
  have : PyData.eqv (.list (zs.map PyData.str)) (.list (zs.map PyData.str)) = true := by
    simp only [PyData.eqv]; exact eqv_strs zs
  rw [this]; rfl
theorem due_ok {L : LSt} (ha : a.ok) (h1 : L[1]? = some (some a.t4)) : ∃ q V', Mp.bin addW (Mp.bin addW (Mp.bin repL (eLst (aCons (cst (.str "loses")) aNil)) (eCall (Mp.b1 intW) (aCons (Mp.bin ixW (vget 1) (cst (.int 1))) aNil))) (Mp.bin repL (eLst (aCons (cst (.str "doubles")) aNil)) (eCall (Mp.b1 intW) (aCons (Mp.bin ixW (vget 1) (cst (.int 2))) aNil)))) (Mp.bin repL (eLst (aCons (Mp.bin addW (cst (.str "overtakes ")) (eCall (Mp.b1 (strW du24__str__)) (aCons (Mp.bin ixW (vget 1) (cst (.int 3))) aNil))) aNil)) (eCall (Mp.b1 intW) (aCons (Mp.bin gtI (Mp.bin ixW (vget 1) (cst (.int 3))) (cst (.int 0))) aNil))) L V = .ok (.loc q) V' ∧ V'[q]? = some (.lst ((lstr a.l a.d a.o).map W.str)) ∧ Kp V V' := by
  have x1 : ∀ U, Mp.bin ixW (vget 1) (cst (.int 1)) L U = .ok (.bl a.l) U := fun U => bin_ok (v := a.t4) (by simp [h1]) rfl (ix_t (i := 1) rfl)
  have x2 : ∀ U, Mp.bin ixW (vget 1) (cst (.int 2)) L U = .ok (.bl a.d) U := fun U => bin_ok (v := a.t4) (by simp [h1]) rfl (ix_t (i := 2) rfl)
  have x3 : ∀ U, Mp.bin ixW (vget 1) (cst (.int 3)) L U = .ok (.int (a.o : Int)) U := fun U => bin_ok (v := a.t4) (by simp [h1]) rfl (ix_t (i := 3) rfl)
  have bi : ∀ (z : Bool) (U : Sto), intW (.bl z) U = .ok (.int ((if z then 1 else 0 : Nat) : Int)) U := fun z U => by cases z <;> rfl
  have y1 : LX (Mp.bin repL (eLst (aCons (cst (.str "loses")) aNil)) (eCall (Mp.b1 intW) (aCons (Mp.bin ixW (vget 1) (cst (.int 1))) aNil))) L _ := (LX.lst (fun U => ⟨U, rfl, .refl⟩) (by simp)).rep (k := if a.l then 1 else 0) (fun U => call1_ok (x1 U) (bi _ U)) (by cases a.l <;> decide) (zs := [.str "loses"]) (by simp)
  have y2 : LX (Mp.bin repL (eLst (aCons (cst (.str "doubles")) aNil)) (eCall (Mp.b1 intW) (aCons (Mp.bin ixW (vget 1) (cst (.int 2))) aNil))) L _ := (LX.lst (fun U => ⟨U, rfl, .refl⟩) (by simp)).rep (k := if a.d then 1 else 0) (fun U => call1_ok (x2 U) (bi _ U)) (by cases a.d <;> decide) (zs := [.str "doubles"]) (by simp)
  have nl := nm_len (n := a.o) (by have := ha.2; omega)
  have lo : ("overtakes " : Str).length = 10 := by decide +kernel
  have b6 := big6
  have s3 : ∀ U, Mp.bin addW (cst (.str "overtakes ")) (eCall (Mp.b1 (strW du24__str__)) (aCons (Mp.bin ixW (vget 1) (cst (.int 3))) aNil)) L U = .ok (.str (("overtakes " : Str) ++ nm a.o)) U := fun U => bin_ok rfl (call1_ok (x3 U) (strW_int (by have := ha.2; omega))) (by
    simp only [addW]
    rw [if_pos (by omega)])
  have gt : ∀ U, Mp.bin gtI (Mp.bin ixW (vget 1) (cst (.int 3))) (cst (.int 0)) L U = .ok (.bl (decide (0 < a.o))) U := fun U => bin_ok (x3 U) rfl (by simp)
  have y3 : LX (Mp.bin repL (eLst (aCons (Mp.bin addW (cst (.str "overtakes ")) (eCall (Mp.b1 (strW du24__str__)) (aCons (Mp.bin ixW (vget 1) (cst (.int 3))) aNil))) aNil)) (eCall (Mp.b1 intW) (aCons (Mp.bin gtI (Mp.bin ixW (vget 1) (cst (.int 3))) (cst (.int 0))) aNil))) L _ := (LX.lst (fun U => ⟨U, a_1 (s3 U), .refl⟩) (by simp)).rep (k := if decide (0 < a.o) then 1 else 0) (fun U => call1_ok (gt U) (bi _ U)) (by cases decide (0 < a.o) <;> decide) (zs := [.str (("overtakes " : Str) ++ nm a.o)]) (by simp)
  rw [rep_one] at y1 y2 y3
  obtain ⟨q, V', e, g, k⟩ := ((y1.add y2 (by cases a.l <;> cases a.d <;> simp)).add y3 (by cases a.l <;> cases a.d <;> cases decide (0 < a.o) <;> simp)) V
  refine ⟨q, V', e, ?_, k⟩
  rw [g, ← List.map_append, ← List.map_append]
  unfold lstr
  by_cases h : 0 < a.o <;> simp [h]
theorem made_ok2 (h : PenAt p k V) (hk : k ≤ 800000) : ∃ V', v__law_made_right [.loc p] V = .ok (.bl true) V' ∧ PenAt p (k + 8) V' ∧ Grow p V V' := by
  obtain ⟨L0, hL0⟩ : ∃ L : LSt, L = [some (.loc p), none, none, none, none, none, none, none, none, none] := ⟨_, rfl⟩
  have v0 : ∀ U, vget 0 L0 U = .ok (.loc p) U := fun U => by rw [hL0]; rfl
  obtain ⟨c, l, d, o, V1, e1, hc, ho, p1, g1⟩ := four_ok h (by omega)
  obtain ⟨c', l', d', o', V2, e2, hc', ho', p2, g2⟩ := four_ok p1 (by omega)
  obtain ⟨a, ha⟩ : ∃ a : Pt, a = ⟨c, l, d, o⟩ := ⟨_, rfl⟩
  obtain ⟨b, hb⟩ : ∃ b : Pt, b = ⟨c', l', d', o'⟩ := ⟨_, rfl⟩
  have oa : a.ok := by rw [ha]; exact ⟨hc, ho⟩
  have ob : b.ok := by rw [hb]; exact ⟨hc', ho'⟩
  have ea : tl4 c l d o = a.t4 := by rw [ha]; rfl
  have eb : tl4 c' l' d' o' = b.t4 := by rw [hb]; rfl
  rw [ea] at e1
  rw [eb] at e2
  obtain ⟨L1, hL1⟩ : ∃ L : LSt, L = [some (.loc p), some a.t4, some b.t4, none, none, none, none, none, none, none] := ⟨_, rfl⟩
  have t0 : v__law_made_right_s0 L0 V = .nx L1 V2 := by
    have q := a_c (fn_ok (n := 1) (ds := []) (G := v__law_four) (a_1 (v0 V)) rfl e1) (a_1 (fn_ok (n := 1) (ds := []) (G := v__law_four) (a_1 (v0 V1)) rfl e2))
    unfold v__law_made_right_s0
    simp only [sPar]
    rw [toS_ok q, hL1, hL0]
    rfl
  have hN : ∀ U : Sto, HasL [] U := fun U z hz => nomatch hz
  have g11 : TE L1 [] (vget 1) a.t4 := TE.get (by rw [hL1]; rfl)
  have g12 : TE L1 [] (vget 2) b.t4 := TE.get (by rw [hL1]; rfl)
  obtain ⟨V3, e3, k3⟩ := TE.tup (TA.cons (TE.chan oa g11) (TA.cons (TE.chan ob g12) TA.nil)) (by simp) V2 (hN _)
  obtain ⟨L2, hL2⟩ : ∃ L : LSt, L = [some (.loc p), some a.t4, some b.t4, some a.ch, some b.ch, none, none, none, none, none] := ⟨_, rfl⟩
  have t1 : v__law_made_right_s1 L1 V2 = .nx L2 V3 := by
    unfold v__law_made_right_s1
    simp only [Mp.sAsg]
    rw [toS_ok e3, hL2, hL1]
    rfl
  have q1 : TE L2 [] (vget 1) a.t4 := TE.get (by rw [hL2]; rfl)
  have q2 : TE L2 [] (vget 2) b.t4 := TE.get (by rw [hL2]; rfl)
  have q3 : TE L2 [] (vget 3) a.ch := TE.get (by rw [hL2]; rfl)
  have q4 : TE L2 [] (vget 4) b.ch := TE.get (by rw [hL2]; rfl)
  -- told, and the faults one by one
  have fl : TT L2 [] (tB1 (Mp.bin neL (eLc (iEl (iAny (vget 3)) (iOwn it23__iter__ (vget 3))) (cN 5) tTrue (vget 5) [5]) (eFn (defM 1 [] v__law_faults) (aCons (vget 1) aNil)))) false := fun U _ => by
    have w := walk_ch (V := U) (a := a) (L := L2) (i := 3) (by rw [hL2]; rfl)
    have lc := eLc_it (g := cN 5) (e := vget 5) (vs := [5]) (ys := fsOf a.l a.d a.o) w rfl (Nat.le_trans fs_len (by decide)) fun i w y h1 h2 => by
      rw [h1] at h2; cases h2
      exact ⟨_, rfl, fun U => by rw [hL2]; rfl⟩
    obtain ⟨q, U2, e, g, kk⟩ := faults_ok (S := U ++ [.lst (fsOf a.l a.d a.o)]) (c := a.c) (l := a.l) (d := a.d) oa.2
    have fe : eFn (defM 1 [] v__law_faults) (aCons (vget 1) aNil) L2 (U ++ [.lst (fsOf a.l a.d a.o)]) = .ok (.loc q) U2 := fn_ok (a_1 (by rw [hL2]; rfl)) rfl e
    exact ⟨U2, tbin lc fe (neL_ok (kk.at (by simp)) g (fs_fk oa.2)), (Kp.app _).trans kk⟩
  obtain ⟨V4, e4, k4⟩ := TT.ifn (B := sRet (cst (.bl false))) (TT.or (TT.b1 (TE.ne_s (TE.repr oa (TE.told oa q3)) (TE.repr oa q1))) fl) rfl (hN V3)
  have t2 : v__law_made_right_s2 L2 V3 = .nx L2 V4 := e4
  obtain ⟨V5, e5, k5⟩ := TT.ifn (B := sRet (cst (.bl false))) (TT.or (TT.b1 (TE.bin (op := neT) (TE.bin (op := eqT) q3 q4 fun U => ⟨U, eq_g oa ob, .refl⟩) (TE.bin (op := eqT) q1 q2 fun U => ⟨U, eq_t, .refl⟩) fun U => ⟨U, ne_b, .refl⟩)) (TT.b1 (TE.bin (op := neT) (TE.bin (op := neT) q3 q4 fun U => ⟨U, ne_g oa ob, .refl⟩) (TE.bin (op := neT) q1 q2 fun U => ⟨U, ne_t, .refl⟩) fun U => ⟨U, ne_b, .refl⟩))) rfl (hN V4)
  have t3 : v__law_made_right_s3 L2 V4 = .nx L2 V5 := e5
  -- strange things
  have x0 : ∀ U, Mp.bin ixW (vget 1) (cst (.int 0)) L2 U = .ok (.int (a.c : Int)) U := fun U => bin_ok (v := a.t4) (by rw [hL2]; rfl) rfl (ix_t (i := 0) rfl)
  obtain ⟨V6, e6, k6⟩ := strW_ch (S := V5) (c := a.c) (l := a.l) (d := a.d) (o := a.o) oa.1.2 oa.2
  have s6 : eCall (Mp.b1 (strW du24__str__)) (aCons (vget 3) aNil) L2 V5 = .ok (.str (ctx a.c a.l a.d a.o)) V6 := call1_ok (v := a.ch) (S1 := V5) (by rw [hL2]; rfl) e6
  obtain ⟨q, V7, e7, g7, k7⟩ := faults_ok (S := V6) (c := a.c) (l := a.l) (d := a.d) oa.2
  have f7 : eFn (defM 1 [] v__law_faults) (aCons (vget 1) aNil) L2 V6 = .ok (.loc q) V7 := fn_ok (a_1 (by rw [hL2]; rfl)) rfl e7
  obtain ⟨V8, hV8⟩ : ∃ V8, V8 = V7 ++ [Ob.dead] := ⟨_, rfl⟩
  have n8 : eNew0 frzO 5 0 L2 V7 = .ok (.ins 5 []) V8 := by rw [hV8]; exact new_l
  have k8 : Kp V7 V8 := by rw [hV8]; exact Kp.app _
  obtain ⟨ws, hws⟩ : ∃ ws, ws = [W.non, a.t4, .str (ctx a.c a.l a.d a.o), .int (a.c : Int), .loc q, .ins 5 []] := ⟨_, rfl⟩
  obtain ⟨V9, hV9⟩ : ∃ V9, V9 = V8 ++ [Ob.lst ws] := ⟨_, rfl⟩
  have k9 : Kp V8 V9 := by rw [hV9]; exact Kp.app _
  have v21 : ∀ U, vget 1 L2 U = .ok a.t4 U := fun U => by rw [hL2]; rfl
  have l9 := lst_ok (a_c (f := cst .non) (S1 := V5) rfl (a_c (v21 V5) (a_c s6 (a_c (x0 V6) (a_c f7 (a_1 n8)))))) (by simp)
  rw [← hws, ← hV9] at l9
  obtain ⟨L3, hL3⟩ : ∃ L : LSt, L = [some (.loc p), some a.t4, some b.t4, some a.ch, some b.ch, none, some (.loc V8.length), none, none, none] := ⟨_, rfl⟩
  have t4 : v__law_made_right_s4 L2 V5 = .nx L3 V9 := by
    have z := asg_ok (i := 6) l9
    rw [hL3]
    rw [hL2] at z ⊢
    exact z
  have g9 : V9[V8.length]? = some (.lst ws) := by rw [hV9]; simp
  obtain ⟨V10, e10, g10, k10⟩ := none_ok (b := b) hL3 g9 (by rw [hws]; simp) (fun w hw => by
    rw [hws] at hw
    simp only [List.mem_cons, List.not_mem_nil, or_false] at hw
    rcases hw with rfl | rfl | rfl | rfl | rfl | rfl
    · exact .non
    · exact .tup
    · exact .str
    · exact .int
    · exact .lst ((k8.trans k9).at g7)
    · exact .los)
  obtain ⟨V11, hV11⟩ : ∃ V11, V11 = V10 ++ [Ob.lst []] := ⟨_, rfl⟩
  have k11 : Kp V10 V11 := by rw [hV11]; exact Kp.app _
  have n11 : eLst aNil L3 V10 = .ok (.loc V10.length) V11 := by rw [hV11]; exact lst_ok rfl (by simp)
  have t5 : v__law_made_right_s5 L3 V9 = .nx L3 V11 := if_n (tbin e10 n11 (ne_nil (k11.at g10) (by rw [hV11]; simp)))
  -- the faults' texts
  obtain ⟨V12, hV12⟩ : ∃ V12, V12 = V11 ++ [Ob.lst (fsOf a.l a.d a.o)] := ⟨_, rfl⟩
  have k12 : Kp V11 V12 := by rw [hV12]; exact Kp.app _
  have l12 : eCall (Mp.b1 (listO it23__iter__)) (aCons (vget 3) aNil) L3 V11 = .ok (.loc V11.length) V12 := by
    rw [hV12]; exact call1_ok (v := a.ch) (S1 := V11) (by rw [hL3]; rfl) list_ch
  have g12 : V12[V11.length]? = some (.lst (fsOf a.l a.d a.o)) := by rw [hV12]; simp
  have lc := eLc_sq (g := cN 5) (vs := [5]) (e := eCall (Mp.b1 (strW du24__str__)) (aCons (vget 5) aNil)) (ys := (lstr a.l a.d a.o).map W.str) l12 (.inr ⟨_, rfl, g12⟩) (by rw [← fs_str]; simp) (Nat.le_trans fs_len (by decide)) fun i w y h1 h2 => by
    rw [← fs_str, List.getElem?_map, List.getElem?_map, h1] at h2
    cases h2
    refine ⟨_, rfl, fun U => ?_⟩
    have v1 : vget 5 ((wipeL L3 [5]).set 5 (some w)) U = .ok w U := by rw [hL3]; rfl
    exact call1_ok v1 (str24 (fs_fk oa.2 w (List.mem_of_getElem? h1)))
  obtain ⟨V13, hV13⟩ : ∃ V13, V13 = V12 ++ [Ob.lst ((lstr a.l a.d a.o).map W.str)] := ⟨_, rfl⟩
  have k13 : Kp V12 V13 := by rw [hV13]; exact Kp.app _
  have g13 : V13[V12.length]? = some (.lst ((lstr a.l a.d a.o).map W.str)) := by rw [hV13]; simp
  rw [← hV13] at lc
  obtain ⟨L4, hL4⟩ : ∃ L : LSt, L = [some (.loc p), some a.t4, some b.t4, some a.ch, some b.ch, none, some (.loc V8.length), none, some (.loc V12.length), none] := ⟨_, rfl⟩
  have t6 : v__law_made_right_s6 L3 V11 = .nx L4 V13 := by
    have z := asg_ok (i := 8) lc
    rw [hL4]
    rw [hL3] at z ⊢
    exact z
  obtain ⟨q', V14, e14, g14, k14⟩ := due_ok (V := V13) (L := L4) oa (by rw [hL4]; rfl)
  obtain ⟨L5, hL5⟩ : ∃ L : LSt, L = [some (.loc p), some a.t4, some b.t4, some a.ch, some b.ch, none, some (.loc V8.length), none, some (.loc V12.length), some (.loc q')] := ⟨_, rfl⟩
  have t7 : v__law_made_right_s7 L4 V13 = .nx L5 V14 := by
    have z := asg_ok (i := 9) e14
    rw [hL5]
    rw [hL4] at z ⊢
    exact z
  have r1 : Mp.bin eqT (vget 8) (vget 9) L5 V14 = .ok (.bl true) V14 := bin_ok (v := .loc V12.length) (u := .loc q') (S1 := V14) (by rw [hL5]; rfl) (by rw [hL5]; rfl) (eq_sl (k14.at g13) g14)
  obtain ⟨V15, e15, k15⟩ := TE.chan oa (L := L5) (hs := []) (f := vget 1) (TE.get (by rw [hL5]; rfl)) V14 (hN _)
  have r2 : Mp.bin eqT (vget 3) (eFn (defM 1 [] v__law_channel) (aCons (vget 1) aNil)) L5 V14 = .ok (.bl true) V15 := by
    have z := eq_g (V := V15) oa oa
    rw [decide_eq_true rfl] at z
    exact bin_ok (v := a.ch) (S1 := V14) (by rw [hL5]; rfl) e15 z
  have t8 : v__law_made_right_s8 L5 V14 = .rt (.bl true) V15 := ret_ok (vand_t r1 r2)
  have kk : Kp V2 V15 := k3.trans (k4.trans (k5.trans (k6.trans (k7.trans (k8.trans (k9.trans (k10.trans (k11.trans (k12.trans (k13.trans (k14.trans k15)))))))))))
  refine ⟨V15, ?_, kk.pen p2, (g1.trans g2).trans kk.grow⟩
  rw [hL0] at t0
  exact congrArg runB (seq_nx t0 (seq_nx t1 (seq_nx t2 (seq_nx t3 (seq_nx t4 (seq_nx t5 (seq_nx t6 (seq_nx t7 t8))))))))
end
end
end Lw
set_option Elab.async false
set_option linter.all false
set_option maxRecDepth 100000
set_option maxHeartbeats 0
namespace Lw
noncomputable section
open PySem PySem.Spec PyProof.Rows L2 Mp
/-! ### what is refused -/
/-- no number of 1 to hi -/
inductive Wr (hi : Nat) : W → Sto → Prop where
  | non {V : Sto} : Wr hi .non V
  | zer {V : Sto} : Wr hi (.int 0) V
  | top {V : Sto} : Wr hi (.int ((hi + 1 : Nat) : Int)) V
  | bl {V : Sto} : Wr hi (.bl true) V
  | str {V : Sto} : Wr hi (.str "1") V
  | neg {V : Sto} : Wr hi (.int (-1)) V
  | tup {V : Sto} {ws : List W} : Wr hi (.tup ws) V
  | gre {V : Sto} : Wr hi (.int (powZ 10 20)) V
  | los {V : Sto} : Wr hi (.ins 5 []) V
  | lst {V : Sto} {q : Nat} {ws : List W} (h : V[q]? = some (.lst ws)) : Wr hi (.loc q) V
section
variable {V : Sto} {w : W} {hi : Nat} {L : LSt}
theorem Wr.kp {V' : Sto} (h : Wr hi w V) (k : Kp V V') : Wr hi w V' := by
  cases h with
  | non => exact .non
  | zer => exact .zer
  | top => exact .top
  | bl => exact .bl
  | str => exact .str
  | neg => exact .neg
  | tup => exact .tup
  | gre => exact .gre
  | los => exact .los
  | lst h => exact .lst (k.at h)
theorem isint_no (i : isiA 9 clsX clsSub [w, .ty "int"] V = .ok (.bl false) V) : v_is_integer [w] V = .ok (.bl false) V := by
  have a : eCall (isiA 9 clsX clsSub) (aCons (vget 0) (aCons (cst (.ty "int")) aNil)) [some w] V = .ok (.bl false) V := call_ok (a_c rfl (a_1 rfl)) i
  exact congrArg runB (ret_ok (vand_f a))
theorem isint_bl : v_is_integer [.bl true] V = .ok (.bl false) V := by simp [v_is_integer, tyNs]
theorem within_no {lo hi : Int} (h : v_is_integer [w] V = .ok (.bl false) V) : v_is_within [w, .int lo, .int hi] V = .ok (.bl false) V := by
  have t0 : v_is_within_s0 [some w, some (.int lo), some (.int hi)] V = .rt (.bl false) V := if_t (or_t (not_ok (b := false) (tst_ok (fn_ok (a_1 rfl) rfl h)))) rfl
  exact congrArg runB (seq_rt t0)
theorem Wr.within (h : Wr hi w V) (h3 : hi ≤ 3) : v_is_within [w, .int 1, .int (hi : Int)] V = .ok (.bl false) V := by
  have num : ∀ n : Int, (decide (1 ≤ n) && decide (n ≤ (hi : Int))) = false → v_is_within [.int n, .int 1, .int (hi : Int)] V = .ok (.bl false) V := fun n hn => by
    rw [within_ok, hn]
  cases h with
  | non => exact within_no (isint_no (by simp [tyNs]))
  | zer => exact num 0 rfl
  | top => exact num _ (by
      have : ¬ (((hi + 1 : Nat) : Int) ≤ (hi : Int)) := by omega
      rw [decide_eq_false this]; simp)
  | bl => exact within_no isint_bl
  | str => exact within_no (isint_no (by simp [tyNs]))
  | neg => exact num _ rfl
  | tup => exact within_no (isint_no (by simp [tyNs]))
  | gre => exact num _ (by
      have : ¬ (powZ 10 20 ≤ (hi : Int)) := by
        have e : powZ 10 20 = 100000000000000000000 := by decide +kernel
        rw [e]; omega
      rw [decide_eq_false this]; simp)
  | los => exact within_no (isint_no (by simp [tyNs, clsSub]))
  | lst h => exact within_no (isint_no (by simp [tyNs, h]))
/-- no fault -/
inductive Od : W → Sto → Prop where
  | non {V : Sto} : Od .non V
  | int {V : Sto} : Od (.int 1) V
  | str {V : Sto} : Od (.str "loses") V
  | tup {V : Sto} {ws : List W} : Od (.tup ws) V
  | lst {V : Sto} {q : Nat} {ws : List W} (h : V[q]? = some (.lst ws)) : Od (.loc q) V
  | dct {V : Sto} {q : Nat} (h : V[q]? = some (.dct [])) : Od (.loc q) V
  | bl {V : Sto} : Od (.bl true) V
theorem Od.kp {V' : Sto} (h : Od w V) (k : Kp V V') : Od w V' := by
  cases h with
  | non => exact .non
  | int => exact .int
  | str => exact .str
  | tup => exact .tup
  | lst h => exact .lst (k.at h)
  | dct h => exact .dct (k.at h)
  | bl => exact .bl
theorem kind_no {t : String} (h : kdW w V = some (.b t)) : v_is_kind [w] V = .ok (.bl false) V := by
  have b3 : (3 : Nat) ≤ 1000 := by decide
  have i : isiT 9 clsSub [w, .tup [.glo 5, .glo 6, .glo 7]] V = .ok (.bl false) V ∨ isiK 9 clsSub (.b t) (.ty "int") = none := by
    cases q : isiK 9 clsSub (.b t) (.ty "int") with
    | none => exact .inr rfl
    | some r =>
      left
      simp only [isiT, h, q]
      rfl
  have q : isiK 9 clsSub (.b t) (.ty "int") ≠ none := by
    simp [isiK, tyNs]
  have i2 := i.resolve_right q
  have tp : eTup (aCons (cst (.glo 5)) (aCons (cst (.glo 6)) (aCons (cst (.glo 7)) aNil))) [some w] V = .ok (.tup [.glo 5, .glo 6, .glo 7]) V := tup_ok rfl (by simp)
  have a : eCall (isiT 9 clsSub) (aCons (vget 0) (aCons (eTup (aCons (cst (.glo 5)) (aCons (cst (.glo 6)) (aCons (cst (.glo 7)) aNil)))) aNil)) [some w] V = .ok (.bl false) V := call_ok (a_c rfl (a_1 tp)) i2
  exact congrArg runB (ret_ok a)
theorem Od.kind (h : Od w V) : v_is_kind [w] V = .ok (.bl false) V := by
  cases h with
  | non => exact kind_no rfl
  | int => exact kind_no rfl
  | str => exact kind_no rfl
  | tup => exact kind_no rfl
  | lst h => exact kind_no (t := "list") (by simp [h])
  | dct h => exact kind_no (t := "dict") (by simp [h])
  | bl => exact kind_no rfl
theorem heard_ch {fm : M W} {S S1 : Sto} {z : Str} (h : fm S = .exc 1 [.str z] S1) : heard__law_heard fm S = .ok (.tup [.str "channel", .str z]) S1 := by
  unfold heard__law_heard hb__law_heard
  have b2' : (2 : Nat) ≤ big := by unfold big; omega
  have i1 : isiA 9 clsX clsSub [.exc 1 [.str z], .glo 1] S1 = .ok (.bl true) S1 := by simp [clsX, clsSub]
  simp [-isiA, h, i1, clsX, clsSub, at22_partx, List.replicate, b2']
abbrev tk (z : Str) : W := .tup [.str "channel", .str z]
theorem lam_ok {fb : EM} {S1 : Sto} {z : Str} (h : fb L V = .exc 1 [.str z] S1) : eLam heard__law_heard fb L V = .ok (tk z) S1 := heard_ch (fm := fun S' => fb L S') h
theorem app_step {V0 : Sto} {q : Nat} {acc : List W} {E : EM} (h6 : L[6]? = some (some (.loc q))) (hk : Kp V0 V) (hq : V0.length ≤ q) (g : V[q]? = some (.lst acc)) (ha : acc.length ≤ 100) (he : ∃ V1, E L V = .ok w V1 ∧ Kp V V1) : ∃ V2, sDrp (eBM isL appM (vget 6) (aCons E aNil)) L V = .nx L V2 ∧ V2[q]? = some (.lst (acc ++ [w])) ∧ Kp V0 V2 := by
  obtain ⟨V1, e1, k1⟩ := he
  have bN := bigN
  have g1 := k1.at g
  have lt := (List.getElem?_eq_some_iff.mp g1).1
  have ap : appM (.loc q) [w] V1 = .ok .non (V1.set q (.lst (acc ++ [w]))) := by
    have : acc.length < big := by omega
    simp [lstOf, g1, this]
  refine ⟨V1.set q (.lst (acc ++ [w])), drp_ok (bl_ok (by simp [h6]) g (a_1 e1) ap), List.getElem?_set_self lt, ?_⟩
  have kk := hk.trans k1
  exact ⟨by rw [List.length_set]; exact kk.len, fun l hl => by rw [List.getElem?_set_ne (by omega)]; exact kk.keep l hl⟩
/-- what is picked: wrong ones -/
abbrev wrA : AM := aCons (cst .non) (aCons (cst (.int 0)) (aCons (cst (.int 4)) (aCons (cst (.bl true)) (aCons (cst (.str "1")) (aCons (eUn negW (cst (.int 1))) (aCons (eTup (aCons (cst (.int 1)) aNil)) (aCons (Mp.bin powW (cst (.int 10)) (cst (.int 20))) (aCons (eNew0 frzO 5 0) aNil))))))))
abbrev stA : AM := aCons (cst .non) (aCons (cst (.int 0)) (aCons (cst (.int 3)) (aCons (cst (.bl true)) (aCons (cst (.str "1")) (aCons (eUn negW (cst (.int 1))) (aCons (eTup (aCons (cst (.int 1)) aNil)) (aCons (Mp.bin powW (cst (.int 10)) (cst (.int 20))) (aCons (eLst aNil) aNil))))))))
abbrev odA : AM := aCons (cst .non) (aCons (cst (.int 1)) (aCons (cst (.str "loses")) (aCons (eTup (aCons (eNew0 frzO 5 0) aNil)) (aCons (eLst aNil) (aCons eDn (aCons (cst (.bl true)) aNil))))))
theorem pow_ok {U : Sto} : Mp.bin powW (cst (.int 10)) (cst (.int 20)) L U = .ok (.int (powZ 10 20)) U := bin_ok rfl rfl (opII_ok (by decide))
theorem neg_ok {U : Sto} : eUn negW (cst (.int 1)) L U = .ok (.int (-1)) U := rfl
theorem tup1_ok {U : Sto} : eTup (aCons (cst (.int 1)) aNil) L U = .ok (.tup [.int 1]) U := tup_ok rfl (by simp)
section
variable {p k : Nat}
theorem wr_ok (h : PenAt p k V) (hk : k ≤ 900000) (h0 : L[0]? = some (some (.loc p))) : ∃ w U, eFn (defM 2 [] v__law_pick) (aCons (vget 0) (aCons (eLst wrA) aNil)) L V = .ok w U ∧ (∀ V', Grow p U V' → Wr 3 w V') ∧ PenAt p (k + 1) U ∧ Grow p V U := by
  have key : wrA L V = .ok _ (V ++ [Ob.dead]) := a_c (f := cst .non) rfl (a_c (f := cst (.int 0)) rfl (a_c (f := cst (.int 4)) rfl (a_c (f := cst (.bl true)) rfl (a_c (f := cst (.str "1")) rfl (a_c neg_ok (a_c tup1_ok (a_c pow_ok (a_1 new_l))))))))
  obtain ⟨w, U, mw, e, p1, g1⟩ := ex_pickJ (j := 0) (S := V) (ls := L) key h0 (h.app _) (by omega) (by simp) (by simp)
  refine ⟨w, U, e, fun V' g' => ?_, p1, (Grow.app _).trans g1⟩
  simp only [List.mem_cons, List.not_mem_nil, or_false] at mw
  rcases mw with rfl | rfl | rfl | rfl | rfl | rfl | rfl | rfl | rfl
  · exact .non
  · exact .zer
  · exact .top
  · exact .bl
  · exact .str
  · exact .neg
  · exact .tup
  · exact .gre
  · exact .los
theorem st_ok (h : PenAt p k V) (hk : k ≤ 900000) (h0 : L[0]? = some (some (.loc p))) : ∃ w U, eFn (defM 2 [] v__law_pick) (aCons (vget 0) (aCons (eLst stA) aNil)) L V = .ok w U ∧ (∀ V', Grow p U V' → Wr 2 w V') ∧ PenAt p (k + 1) U ∧ Grow p V U := by
  have key : stA L V = .ok _ (V ++ [Ob.lst []]) := a_c (f := cst .non) rfl (a_c (f := cst (.int 0)) rfl (a_c (f := cst (.int 3)) rfl (a_c (f := cst (.bl true)) rfl (a_c (f := cst (.str "1")) rfl (a_c neg_ok (a_c tup1_ok (a_c pow_ok (a_1 (lst_ok rfl (by simp))))))))))
  obtain ⟨w, U, mw, e, p1, g1⟩ := ex_pickJ (j := 0) (S := V) (ls := L) key h0 (h.app _) (by omega) (by simp) (by simp)
  have lt := h.lt
  have a1 : U[V.length]? = some (.lst []) := g1.at (by simp) (by omega)
  refine ⟨w, U, e, fun V' g' => ?_, p1, (Grow.app _).trans g1⟩
  simp only [List.mem_cons, List.not_mem_nil, or_false] at mw
  rcases mw with rfl | rfl | rfl | rfl | rfl | rfl | rfl | rfl | rfl
  · exact .non
  · exact .zer
  · exact .top
  · exact .bl
  · exact .str
  · exact .neg
  · exact .tup
  · exact .gre
  · exact .lst (g'.at a1 (by omega))
theorem od_ok (h : PenAt p k V) (hk : k ≤ 900000) (h0 : L[0]? = some (some (.loc p))) : ∃ w U, eFn (defM 2 [] v__law_pick) (aCons (vget 0) (aCons (eLst odA) aNil)) L V = .ok w U ∧ (∀ V', Grow p U V' → Od w V') ∧ PenAt p (k + 1) U ∧ Grow p V U := by
  obtain ⟨V1, hV1⟩ : ∃ V1 : Sto, V1 = V ++ [.dead] := ⟨_, rfl⟩
  obtain ⟨V2, hV2⟩ : ∃ V2 : Sto, V2 = V1 ++ [.lst []] := ⟨_, rfl⟩
  obtain ⟨V3, hV3⟩ : ∃ V3 : Sto, V3 = V2 ++ [.dct []] := ⟨_, rfl⟩
  have k1 : Kp V V1 := by rw [hV1]; exact Kp.app _
  have k2 : Kp V1 V2 := by rw [hV2]; exact Kp.app _
  have k3 : Kp V2 V3 := by rw [hV3]; exact Kp.app _
  have x3 : eTup (aCons (eNew0 frzO 5 0) aNil) L V = .ok (.tup [.ins 5 []]) V1 := by rw [hV1]; exact tup_ok (a_1 new_l) (by simp)
  have x4 : eLst aNil L V1 = .ok (.loc V1.length) V2 := by rw [hV2]; exact lst_ok rfl (by simp)
  have x5 : eDn L V2 = .ok (.loc V2.length) V3 := by simp [hV3]
  have key : odA L V = .ok _ V3 := a_c (f := cst .non) rfl (a_c (f := cst (.int 1)) rfl (a_c (f := cst (.str "loses")) rfl (a_c x3 (a_c x4 (a_c x5 (a_1 (f := cst (.bl true)) rfl))))))
  have kk := (k1.trans k2).trans k3
  obtain ⟨w, U, mw, e, p1, g1⟩ := ex_pickJ (j := 0) (S := V) (ls := L) key h0 (kk.pen h) (by omega) (by simp) (by simp)
  have lt := h.lt
  have n1 : V1.length ≠ p := by have := k1.len; omega
  have n2 : V2.length ≠ p := by have := k1.len; have := k2.len; omega
  have a1 : U[V1.length]? = some (.lst []) := g1.at (k3.at (by rw [hV2]; simp)) n1
  have a2 : U[V2.length]? = some (.dct []) := g1.at (by rw [hV3]; simp) n2
  refine ⟨w, U, e, fun V' g' => ?_, p1, kk.grow.trans g1⟩
  simp only [List.mem_cons, List.not_mem_nil, or_false] at mw
  rcases mw with rfl | rfl | rfl | rfl | rfl | rfl | rfl
  · exact .non
  · exact .int
  · exact .str
  · exact .tup
  · exact .lst (g'.at a1 (by omega))
  · exact .dct (g'.at a2 (by omega))
  · exact .bl
theorem no1_ok {U : Sto} : eNew frzO 7 1 (defM 2 [] v_Overtakes___init__) (aCons (cst (.int 1)) aNil) L U = .ok (.ins 7 [.int ((1 : Nat) : Int)]) (U ++ [.dead]) := new_o (b := 1) rfl (by decide)
theorem no2_ok {U : Sto} : eNew frzO 7 1 (defM 2 [] v_Overtakes___init__) (aCons (cst (.int 2)) aNil) L U = .ok (.ins 7 [.int ((2 : Nat) : Int)]) (U ++ [.dead]) := new_o (b := 2) rfl (by decide)
abbrev twA : AM := aCons (eLst (aCons (eNew0 frzO 5 0) (aCons (eNew0 frzO 5 0) aNil))) (aCons (eLst (aCons (eNew0 frzO 6 0) (aCons (eNew0 frzO 6 0) aNil))) (aCons (eLst (aCons (eNew frzO 7 1 (defM 2 [] v_Overtakes___init__) (aCons (cst (.int 1)) aNil)) (aCons (eNew frzO 7 1 (defM 2 [] v_Overtakes___init__) (aCons (cst (.int 2)) aNil)) aNil))) (aCons (eLst (aCons (eNew frzO 7 1 (defM 2 [] v_Overtakes___init__) (aCons (cst (.int 2)) aNil)) (aCons (eNew frzO 7 1 (defM 2 [] v_Overtakes___init__) (aCons (cst (.int 2)) aNil)) aNil))) aNil)))
theorem two_ok {F G : EM} {x y : W} (hF : ∀ U, F L U = .ok x (U ++ [.dead])) (hG : ∀ U, G L U = .ok y (U ++ [.dead])) (U : Sto) : ∃ q U', eLst (aCons F (aCons G aNil)) L U = .ok (.loc q) U' ∧ U.length ≤ q ∧ U'[q]? = some (.lst [x, y]) ∧ Kp U U' := by
  have e := lst_ok (a_c (hF U) (a_1 (hG _))) (by simp)
  exact ⟨_, _, e, by simp, by simp, (Kp.app _).trans ((Kp.app _).trans (Kp.app _))⟩
theorem tw_ok (h : PenAt p k V) (hk : k ≤ 900000) (h0 : L[0]? = some (some (.loc p))) : ∃ q x y n U, eFn (defM 2 [] v__law_pick) (aCons (vget 0) (aCons (eLst twA) aNil)) L V = .ok (.loc q) U ∧ U[q]? = some (.lst [x, y]) ∧ Fk x n ∧ Fk y n ∧ PenAt p (k + 1) U ∧ Grow p V U := by
  obtain ⟨q1, V1, e1, l1, a1, k1⟩ := two_ok (L := L) (fun U => new_l) (fun U => new_l) V
  obtain ⟨q2, V2, e2, l2, a2, k2⟩ := two_ok (L := L) (fun U => new_d) (fun U => new_d) V1
  obtain ⟨q3, V3, e3, l3, a3, k3⟩ := two_ok (L := L) (fun U => no1_ok) (fun U => no2_ok) V2
  obtain ⟨q4, V4, e4, l4, a4, k4⟩ := two_ok (L := L) (fun U => no2_ok) (fun U => no2_ok) V3
  have key : twA L V = .ok _ V4 := a_c e1 (a_c e2 (a_c e3 (a_1 e4)))
  have kk := ((k1.trans k2).trans k3).trans k4
  obtain ⟨w, U, mw, e, p1, g1⟩ := ex_pickJ (j := 0) (S := V) (ls := L) key h0 (kk.pen h) (by omega) (by simp) (by simp)
  have lt := h.lt
  have z1 := k1.len
  have z2 := k2.len
  have z3 := k3.len
  simp only [List.mem_cons, List.not_mem_nil, or_false] at mw
  rcases mw with rfl | rfl | rfl | rfl
  · exact ⟨q1, _, _, _, U, e, g1.at (((k2.trans k3).trans k4).at a1) (by omega), .l, .l, p1, kk.grow.trans g1⟩
  · exact ⟨q2, _, _, _, U, e, g1.at ((k3.trans k4).at a2) (by omega), .d, .d, p1, kk.grow.trans g1⟩
  · exact ⟨q3, _, _, _, U, e, g1.at (k4.at a3) (by omega), .o (by decide), .o (by decide), p1, kk.grow.trans g1⟩
  · exact ⟨q4, _, _, _, U, e, g1.at a4 (by omega), .o (by decide), .o (by decide), p1, kk.grow.trans g1⟩
end
end
end
end Lw
set_option Elab.async false
set_option linter.all false
set_option maxRecDepth 100000
set_option maxHeartbeats 0
namespace Lw
noncomputable section
open PySem PySem.Spec PyProof.Rows L2 Mp
section
variable {V : Sto} {w : W} {L : LSt} {p k : Nat}
abbrev Cn (A : AM) : EM := eNew frzO 8 2 (defS 2 v_Channel___init__) A
theorem cap_l {A : AM} {xs : List W} (hA : A L V = .ok (w :: xs) V) (hw : Wr 3 w V) (hl : xs.length ≤ 3) : ∃ V1, eLam heard__law_heard (Cn A) L V = .ok (tk "capacity") V1 ∧ Kp V V1 := by
  obtain ⟨V1, e, k⟩ := chan_cap hA (fun U kk => (hw.kp kk).within (by decide)) hl
  exact ⟨V1, lam_ok e, k⟩
theorem no_l {A : AM} {xs : List W} {bs : List Bool} {c : Nat} {V' : Sto} (hc : 1 ≤ c ∧ c ≤ 3) (hA : A L V = .ok (.int (c : Int) :: xs) V') (kv : Kp V V') (hl : xs.length = bs.length) (hl3 : xs.length ≤ 3) (hk : ∀ (i : Nat) w b, xs[i]? = some w → bs[i]? = some b → ∀ U, Kp V' U → v_is_kind [w] U = .ok (.bl b) U) (hf : bs.all id = false) : ∃ V1, Cn A L V = .exc 1 [.str "faults"] V1 ∧ Kp V V1 := by
  obtain ⟨V1, e, k⟩ := chan_fau hc hA hl3 fun U kk => told_no hl (Nat.le_trans hl3 (by decide)) (fun i w b h1 h2 U' kk' => hk i w b h1 h2 U' (kk.trans kk')) hf
  exact ⟨V1, e, kv.trans k⟩
def dRef : PyData := .list [.tuple [.str "channel", .str "capacity"], .tuple [.str "channel", .str "capacity"], .tuple [.str "channel", .str "faults"], .tuple [.str "channel", .str "faults"], .tuple [.str "channel", .str "faults"], .tuple [.str "channel", .str "faults"]]
abbrev wRef : List W := [tk "capacity", tk "capacity", tk "faults", tk "faults", tk "faults", tk "faults"]
theorem ne_ref {a b : Nat} (ha : V[a]? = some (.lst wRef)) (hb : V[b]? = some (.lst wRef)) : neT (.loc a) (.loc b) V = .ok (.bl false) V := by
  have d1 : dat V 40 (.loc a) = some dRef := by simp only [dat, ha]; rfl
  have d2 : dat V 40 (.loc b) = some dRef := by simp only [dat, hb]; rfl
  refine els_1 ?_
  rw [datE_ok d1 d2]
  unfold dRef
  simp [PyData.eqv, PyData.eqvAll]
theorem eq_tk {z : Str} : eqT (tk z) (tk z) V = .ok (.bl true) V := by
  have d1 : dat V 40 (tk z) = some (.tuple [.str "channel", .str z]) := rfl
  refine els_1 ?_
  rw [datE_ok d1 d1]
  simp [PyData.eqv, PyData.eqvAll]
theorem by_no (h : Wr 2 w V) (h7 : L[7]? = some (some w)) : ∃ V1, eNew frzO 7 1 (defM 2 [] v_Overtakes___init__) (aCons (vget 7) aNil) L V = .exc 1 [.str "by"] V1 ∧ Kp V V1 := by
  obtain ⟨S0, hS0⟩ : ∃ S0, S0 = V ++ [Ob.obj 7 []] := ⟨_, rfl⟩
  have k0 : Kp V S0 := by rw [hS0]; exact Kp.app _
  obtain ⟨M, hM⟩ : ∃ M : LSt, M = [some (.loc V.length), some w] := ⟨_, rfl⟩
  have v1 : ∀ U, vget 1 M U = .ok w U := fun U => by rw [hM]; rfl
  have t0 : v_Overtakes___init___s0 M S0 = .exc 1 [.str "by"] M S0 := by
    refine if_t (not_ok (b := false) (tst_ok (fn_ok (a_c (v1 S0) (a_c rfl (a_1 rfl))) rfl ((h.kp k0).within (by decide))))) ?_
    rfl
  have run : defM 2 [] v_Overtakes___init__ [.loc V.length, w] S0 = .exc 1 [.str "by"] S0 := by
    show v_Overtakes___init__ [.loc V.length, w] S0 = _
    rw [hM] at t0
    simp only [v_Overtakes___init__, fnM, List.map_cons, List.map_nil, List.replicate, List.append_nil, sSeq, t0, runB]
  have v7 : vget 7 L V = .ok w V := by simp [h7]
  refine ⟨S0, ?_, k0⟩
  simp only [eNew, a_1 v7, Res.bind]
  rw [← hS0]
  simp only [run]
theorem refused_ok (h : PenAt p k V) (hk : k ≤ 800000) : ∃ V', v__law_refused_right [.loc p] V = .ok (.bl true) V' ∧ PenAt p (k + 6) V' ∧ Grow p V V' := by
  obtain ⟨L0, hL0⟩ : ∃ L : LSt, L = [some (.loc p), none, none, none, none, none, none, none] := ⟨_, rfl⟩
  obtain ⟨w1, V1, e1, o1, p1, g1⟩ := wr_ok h (by omega) (L := L0) (by rw [hL0]; rfl)
  obtain ⟨L1, hL1⟩ : ∃ L : LSt, L = [some (.loc p), some w1, none, none, none, none, none, none] := ⟨_, rfl⟩
  have t0 : v__law_refused_right_s0 L0 V = .nx L1 V1 := by
    have z := asg_ok (i := 1) e1
    rw [hL1]; rw [hL0] at z ⊢; exact z
  obtain ⟨w2, V2, e2, o2, p2, g2⟩ := od_ok p1 (by omega) (L := L1) (by rw [hL1]; rfl)
  obtain ⟨L2, hL2⟩ : ∃ L : LSt, L = [some (.loc p), some w1, some w2, none, none, none, none, none] := ⟨_, rfl⟩
  have t1 : v__law_refused_right_s1 L1 V1 = .nx L2 V2 := by
    have z := asg_ok (i := 2) e2
    rw [hL2]; rw [hL1] at z ⊢; exact z
  obtain ⟨q, x, y, n, V3, e3, g3', fx, fy, p3, g3⟩ := tw_ok p2 (by omega) (L := L2) (by rw [hL2]; rfl)
  obtain ⟨L3, hL3⟩ : ∃ L : LSt, L = [some (.loc p), some w1, some w2, some (.loc q), none, none, none, none] := ⟨_, rfl⟩
  have t2 : v__law_refused_right_s2 L2 V2 = .nx L3 V3 := by
    have z := asg_ok (i := 3) e3
    rw [hL3]; rw [hL2] at z ⊢; exact z
  have L30 : L3[0]? = some (some (.loc p)) := by rw [hL3]; rfl
  obtain ⟨r4, V4, b4, e4, p4, g4⟩ := ex_drawJ (j := 0) (m := 3) (ls := L3) (f := cst (.int 3)) (S := V3) rfl p3 (by omega) L30 (by decide) (by decide)
  obtain ⟨r5, V5, b5, e5, p5, g5⟩ := ex_drawJ (j := 0) (m := 2) (ls := L3) (f := cst (.int 2)) (S := V4) rfl p4 (by omega) L30 (by decide) (by decide)
  obtain ⟨c, hc⟩ : ∃ c : Nat, c = r4 + 1 := ⟨_, rfl⟩
  have hc3 : 1 ≤ c ∧ c ≤ 3 := by omega
  obtain ⟨L4, hL4⟩ : ∃ L : LSt, L = [some (.loc p), some w1, some w2, some (.loc q), some (.int (c : Int)), some (.int (r5 : Int)), none, none] := ⟨_, rfl⟩
  have t3 : v__law_refused_right_s3 L3 V3 = .nx L4 V5 := by
    have z := tup_ok (a_c (bin_ok (op := addW) (fa := cst (.int 1)) (v := .int 1) rfl e4 (w := .int (c : Int)) (by show Res.ok (W.int ((1 : Int) + (r4 : Int))) _ = _; congr 2; omega)) (a_1 e5)) (by simp)
    unfold v__law_refused_right_s3
    simp only [Mp.sAsg]
    rw [toS_ok z, hL4, hL3]
    rfl
  -- what is no draw's: from V5 on
  have np : q ≠ p := by
    intro z
    obtain ⟨c0, a0, l0, ns0, z1, z2, _⟩ := p3
    rw [← z, g3'] at z1
    cases z1
  have q5 : V5[q]? = some (.lst [x, y]) := (g4.trans g5).at g3' np
  have w5 : Wr 3 w1 V5 := o1 V5 (((g2.trans g3).trans g4).trans g5)
  have d5 : Od w2 V5 := o2 V5 ((g3.trans g4).trans g5)
  have v1 : ∀ U, vget 1 L4 U = .ok w1 U := fun U => by rw [hL4]; rfl
  have v2 : ∀ {L : LSt} (U), L[2]? = some (some w2) → vget 2 L U = .ok w2 U := fun U h => by simp [h]
  obtain ⟨V6, e6, k6⟩ := cap_l (L := L4) (V := V5) (xs := [w2]) (a_c (v1 V5) (a_1 (v2 V5 (by rw [hL4]; rfl)))) w5 (by simp)
  obtain ⟨V7, hV7⟩ : ∃ V7, V7 = V6 ++ [Ob.lst [tk "capacity"]] := ⟨_, rfl⟩
  have l7 := lst_ok (a_1 e6) (by simp)
  rw [← hV7] at l7
  obtain ⟨L5, hL5⟩ : ∃ L : LSt, L = [some (.loc p), some w1, some w2, some (.loc q), some (.int (c : Int)), some (.int (r5 : Int)), some (.loc V6.length), none] := ⟨_, rfl⟩
  have t4 : v__law_refused_right_s4 L4 V5 = .nx L5 V7 := by
    have z := asg_ok (i := 6) l7
    rw [hL5]; rw [hL4] at z ⊢; exact z
  have q7 : V7[V6.length]? = some (.lst [tk "capacity"]) := by rw [hV7]; simp
  have K7 : Kp V5 V7 := k6.trans (by rw [hV7]; exact Kp.app _)
  have hq : V5.length ≤ V6.length := k6.len
  have h6 : L5[6]? = some (some (.loc V6.length)) := by rw [hL5]; rfl
  have u1 : ∀ U, vget 1 L5 U = .ok w1 U := fun U => by rw [hL5]; rfl
  have u2 : ∀ U, vget 2 L5 U = .ok w2 U := fun U => by rw [hL5]; rfl
  have u4 : ∀ U, vget 4 L5 U = .ok (.int (c : Int)) U := fun U => by rw [hL5]; rfl
  have u5 : ∀ U, vget 5 L5 U = .ok (.int (r5 : Int)) U := fun U => by rw [hL5]; rfl
  have x0 : ∀ U, Kp V5 U → Mp.bin ixW (vget 3) (cst (.int 0)) L5 U = .ok x U := fun U kk => bin_ok (v := .loc q) (by rw [hL5]; rfl) rfl (ix_l (i := 0) (kk.at q5) rfl)
  have x1 : ∀ U, Kp V5 U → Mp.bin ixW (vget 3) (cst (.int 1)) L5 U = .ok y U := fun U kk => bin_ok (v := .loc q) (by rw [hL5]; rfl) rfl (ix_l (i := 1) (kk.at q5) rfl)
  -- one refusal after another
  obtain ⟨V8, t5, q8, K8⟩ := app_step (w := tk "capacity") h6 K7 hq q7 (by simp) (cap_l (V := V7) (L := L5) (xs := [x, y]) (a_c (u1 V7) (a_c (x0 V7 K7) (a_1 (x1 V7 K7)))) (w5.kp K7) (by simp))
  have nk : ∀ (U : Sto), Kp V5 U → v_is_kind [w2] U = .ok (.bl false) U := fun U kk => (d5.kp kk).kind
  have lam : ∀ {f : EM} {U : Sto}, (∃ V1, f L5 U = .exc 1 [.str "faults"] V1 ∧ Kp U V1) → ∃ V1, eLam heard__law_heard f L5 U = .ok (tk "faults") V1 ∧ Kp U V1 := fun ⟨V1, e, kk⟩ => ⟨V1, lam_ok e, kk⟩
  obtain ⟨V9, t6, q9, K9⟩ := app_step (w := tk "faults") h6 K8 hq q8 (by simp) (lam (no_l (V := V8) (L := L5) (xs := [w2]) (bs := [false]) hc3 (a_c (u4 V8) (a_1 (u2 V8))) .refl rfl (by simp) (fun i w b h1 h2 U kk => by
    match i with
    | 0 => cases h1; cases h2; exact nk U (K8.trans kk)
    | i + 1 => simp at h1) rfl))
  have br : ∃ V1, vIf (tB1 (Mp.bin eqT (vget 5) (cst (.int 0)))) (Cn (aCons (vget 4) (aCons (eNew0 frzO 5 0) (aCons (vget 2) aNil)))) (Cn (aCons (vget 4) (aCons (vget 2) (aCons (eNew0 frzO 5 0) aNil)))) L5 V9 = .exc 1 [.str "faults"] V1 ∧ Kp V9 V1 := by
    have tt : tB1 (Mp.bin eqT (vget 5) (cst (.int 0))) L5 V9 = .ok (decide (r5 = 0)) V9 := tbin (u5 V9) rfl (eq_nn (n := r5) (m := 0))
    have kd : Kp V9 (V9 ++ [Ob.dead]) := Kp.app _
    by_cases z : r5 = 0
    · rw [decide_eq_true z] at tt
      obtain ⟨V1, e, kk⟩ := no_l (V := V9) (L := L5) (xs := [.ins 5 [], w2]) (bs := [true, false]) hc3 (a_c (u4 V9) (a_c new_l (a_1 (u2 _)))) kd rfl (by simp) (fun i w b h1 h2 U kk => by
        match i with
        | 0 => cases h1; cases h2; exact kind_ok .l
        | 1 => cases h1; cases h2; exact nk U ((K9.trans kd).trans kk)
        | i + 2 => simp at h1) rfl
      exact ⟨V1, vif_t tt e, kk⟩
    · rw [decide_eq_false z] at tt
      obtain ⟨V1, e, kk⟩ := no_l (V := V9) (L := L5) (xs := [w2, .ins 5 []]) (bs := [false, true]) hc3 (a_c (u4 V9) (a_c (u2 _) (a_1 new_l))) kd rfl (by simp) (fun i w b h1 h2 U kk => by
        match i with
        | 0 => cases h1; cases h2; exact nk U ((K9.trans kd).trans kk)
        | 1 => cases h1; cases h2; exact kind_ok .l
        | i + 2 => simp at h1) rfl
      exact ⟨V1, vif_f tt e, kk⟩
  obtain ⟨V10, t7, q10, K10⟩ := app_step (w := tk "faults") h6 K9 hq q9 (by simp) (lam br)
  obtain ⟨V11, t8, q11, K11⟩ := app_step (w := tk "faults") (E := eLam heard__law_heard (Cn (aCons (vget 4) (aCons (Mp.bin ixW (vget 3) (cst (.int 0))) (aCons (Mp.bin ixW (vget 3) (cst (.int 1))) aNil))))) h6 K10 hq q10 (by simp) (lam (by
    obtain ⟨V1, e, kk⟩ := chan_fau (ls := L5) (V := V10) (xs := [x, y]) hc3 (a_c (u4 V10) (a_c (x0 V10 K10) (a_1 (x1 V10 K10)))) (by simp) fun U kk => told_tw fx fy
    exact ⟨V1, e, kk⟩))
  obtain ⟨V12, t9, q12, K12⟩ := app_step (w := tk "faults") h6 K11 hq q11 (by simp) (lam (no_l (V := V11) (L := L5) (xs := [x, w2, y]) (bs := [true, false, true]) hc3 (a_c (u4 V11) (a_c (x0 V11 K11) (a_c (u2 V11) (a_1 (x1 V11 K11))))) .refl rfl (by simp) (fun i w b h1 h2 U kk => by
    match i with
    | 0 => cases h1; cases h2; exact kind_ok fx
    | 1 => cases h1; cases h2; exact nk U (K11.trans kk)
    | 2 => cases h1; cases h2; exact kind_ok fy
    | i + 3 => simp at h1) rfl))
  -- all of them
  have yy1 : LX (Mp.bin repL (eLst (aCons (eTup (aCons (cst (.str "channel")) (aCons (cst (.str "capacity")) aNil))) aNil)) (cst (.int 2))) L5 _ := (LX.lst (fun U => ⟨U, a_1 (tup_ok rfl (by simp)), .refl⟩) (by simp)).rep (k := 2) (fun U => rfl) (by decide) (zs := [tk "capacity"]) (by simp)
  have yy2 : LX (Mp.bin repL (eLst (aCons (eTup (aCons (cst (.str "channel")) (aCons (cst (.str "faults")) aNil))) aNil)) (cst (.int 4))) L5 _ := (LX.lst (fun U => ⟨U, a_1 (tup_ok rfl (by simp)), .refl⟩) (by simp)).rep (k := 4) (fun U => rfl) (by decide) (zs := [tk "faults"]) (by simp)
  obtain ⟨r, V13, e13, g13, k13⟩ := (yy1.add yy2 (by simp)) V12
  have t10 : v__law_refused_right_s10 L5 V12 = .nx L5 V13 := if_n (tbin (v := .loc V6.length) (S1 := V12) (by rw [hL5]; rfl) e13 (ne_ref (k13.at q12) g13))
  have gg : Grow p V V5 := (((g1.trans g2).trans g3).trans g4).trans g5
  have K13 : Kp V5 V13 := K12.trans k13
  obtain ⟨w7, V14, e14, o14, p14, g14⟩ := st_ok (L := L5) (K13.pen p5) (by omega) (by rw [hL5]; rfl)
  obtain ⟨L6, hL6⟩ : ∃ L : LSt, L = [some (.loc p), some w1, some w2, some (.loc q), some (.int (c : Int)), some (.int (r5 : Int)), some (.loc V6.length), some w7] := ⟨_, rfl⟩
  have t11 : v__law_refused_right_s11 L5 V13 = .nx L6 V14 := by
    have z := asg_ok (i := 7) e14
    rw [hL6]; rw [hL5] at z ⊢; exact z
  obtain ⟨V15, e15, k15⟩ := by_no (L := L6) (o14 V14 .refl) (by rw [hL6]; rfl)
  have t12 : v__law_refused_right_s12 L6 V14 = .rt (.bl true) V15 := ret_ok (bin_ok (lam_ok e15) (tup_ok rfl (by simp)) eq_tk)
  refine ⟨V15, ?_, k15.pen (p14.mono (by omega)), ((gg.trans K13.grow).trans g14).trans k15.grow⟩
  rw [hL0] at t0
  exact congrArg runB (seq_nx t0 (seq_nx t1 (seq_nx t2 (seq_nx t3 (seq_nx t4 (seq_nx t5 (seq_nx t6 (seq_nx t7 (seq_nx t8 (seq_nx t9 (seq_nx t10 (seq_nx t11 t12))))))))))))
end
/-! ### comprehensions of lists -/
section
variable {g : GW} {e : EM} {ls : LSt} {it : ItW} {B : Sto} {n : Nat} {x : Nat → W} {row : Nat → List W}
def rowsS (B : Sto) (row : Nat → List W) (i : Nat) : Sto := B ++ (Ob.lst ((List.range i).map fun j => W.loc (B.length + 1 + j)) :: (List.range i).map fun j => Ob.lst (row j))
theorem rowsS_len {i : Nat} : (rowsS B row i).length = B.length + 1 + i := by unfold rowsS; simp; omega
theorem rowsS_at {i : Nat} : (rowsS B row i)[B.length]? = some (.lst ((List.range i).map fun j => W.loc (B.length + 1 + j))) := by unfold rowsS; simp
theorem rowsS_get {i j : Nat} (h : j < i) : (rowsS B row i)[B.length + 1 + j]? = some (.lst (row j)) := by
  unfold rowsS
  rw [List.getElem?_append_right (by omega)]
  have e : B.length + 1 + j - B.length = j + 1 := by omega
  rw [e, List.getElem?_cons_succ, List.getElem?_map]
  simp [h]
theorem rows_go (h1 : ∀ i, i < n → ∀ T, itNext it i (B ++ T) = some (some (x i))) (h2 : ∀ T, itNext it n (B ++ T) = some none) (hn : n ≤ 1000)
    (he : ∀ i, i < n → ∃ ls2, g (x i) ls = some ls2 ∧ ∀ T, e ls2 (B ++ T) = .ok (.loc (B ++ T).length) ((B ++ T) ++ [.lst (row i)])) :
    ∀ m i, i + m = n → lcGo it g tTrue e B.length ls (m + 1) i (rowsS B row i) = .ok () (rowsS B row n)
  | 0, i, hi => by
    have : i = n := by omega
    subst this
    unfold lcGo rowsS
    simp only [h2]
  | m + 1, i, hi => by
    have lt : i < n := by omega
    obtain ⟨ls2, g1, g2⟩ := he i lt
    have bN := bigN
    have q1 : itNext it i (rowsS B row i) = some (some (x i)) := by unfold rowsS; exact h1 i lt _
    have q2 : e ls2 (rowsS B row i) = .ok (.loc (B.length + 1 + i)) (rowsS B row i ++ [.lst (row i)]) := by
      have z := g2 (Ob.lst ((List.range i).map fun j => W.loc (B.length + 1 + j)) :: (List.range i).map fun j => Ob.lst (row j))
      have zl := rowsS_len (B := B) (row := row) (i := i)
      unfold rowsS at zl ⊢
      rw [z, zl]
    have q3 : (rowsS B row i ++ [Ob.lst (row i)])[B.length]? = some (.lst ((List.range i).map fun j => W.loc (B.length + 1 + j))) := by
      rw [List.getElem?_append_left (by rw [rowsS_len]; omega)]; exact rowsS_at
    have hb : ((List.range i).map fun j => W.loc (B.length + 1 + j)).length < big := by simp; omega
    have q4 : (rowsS B row i ++ [Ob.lst (row i)]).set B.length (.lst (((List.range i).map fun j => W.loc (B.length + 1 + j)) ++ [.loc (B.length + 1 + i)])) = rowsS B row (i + 1) := by
      unfold rowsS
      rw [List.append_assoc, List.set_append_right _ _ (Nat.le_refl _)]
      simp [List.range_succ]
    unfold lcGo
    simp only [q1, g1, tTrue, q2, NoX, Res.bind, if_true, lstOf, q3, if_pos hb, q4]
    exact rows_go h1 h2 hn he m (i + 1) (by omega)
theorem rows_ok {fi : LSt → M ItW} {vs : List Nat} {S : Sto} (i0 : fi ls S = .ok it B) (hf : itFuel it B = n + 1) (h1 : ∀ i, i < n → ∀ T, itNext it i (B ++ T) = some (some (x i))) (h2 : ∀ T, itNext it n (B ++ T) = some none) (hn : n ≤ 1000)
    (he : ∀ i, i < n → ∃ ls2, g (x i) (wipeL ls vs) = some ls2 ∧ ∀ T, e ls2 (B ++ T) = .ok (.loc (B ++ T).length) ((B ++ T) ++ [.lst (row i)])) : eLc fi g tTrue e vs ls S = .ok (.loc B.length) (rowsS B row n) := by
  have k := rows_go h1 h2 hn he n 0 (by omega)
  have e0 : rowsS B row 0 = B ++ [.lst []] := rfl
  rw [e0] at k
  simp only [eLc, i0, Res.bind, hf, k]
theorem rows_dat {V : Sto} {bs : Nat → List Bool} (kk : Kp (rowsS B (fun i => (bs i).map W.bl) n) V) : dat V 40 (.loc B.length) = some (.list ((List.range n).map fun j => .list ((bs j).map PyData.bool))) := by
  have bl : ∀ (m : Nat) (l : List Bool), optAll (dat V m) (l.map W.bl) = some (l.map PyData.bool) := fun m l => by
    induction l with
    | nil => rfl
    | cons b l ih =>
      have : dat V m (.bl b) = some (.bool b) := by cases m <;> rfl
      simp only [List.map_cons, optAll, this, ih]
  have one : ∀ j, j < n → dat V 39 (.loc (B.length + 1 + j)) = some (.list ((bs j).map PyData.bool)) := fun j hj => by
    have z := kk.at (rowsS_get (B := B) (row := fun i => (bs i).map W.bl) hj)
    simp only [dat, z, bl]; rfl
  have all : ∀ l : List Nat, (∀ j ∈ l, j < n) → optAll (dat V 39) (l.map fun j => W.loc (B.length + 1 + j)) = some (l.map fun j => .list ((bs j).map PyData.bool)) := fun l => by
    induction l with
    | nil => intro _; rfl
    | cons j l ih =>
      intro h
      simp only [List.map_cons, optAll, one j (h j (by simp)), ih fun i hi => h i (List.mem_cons_of_mem _ hi)]
  have z := kk.at (rowsS_at (B := B) (row := fun i => (bs i).map W.bl) (i := n))
  simp only [dat, z, all _ fun j hj => List.mem_range.mp hj]; rfl
end
/-! ### the law -/
abbrev Ly (sa : Addr) (a2 a3 : Option W) : LSt := [some (.adr sa), some (.loc 2), a2, a3, none, none, none, none, none]
theorem turns_ok {sa : Addr} : ∀ (m i k : Nat) (V : Sto) (a2 : Option W), i + m = 8 → PenAt 2 k V → k + 14 * m ≤ 600000 → ∃ b2 V', forGo (.rng 0 8) (gNm 2) (sIf (mOr (mNot (tst (eFn (defM 1 [] v__law_made_right) (aCons (vget 1) aNil)))) (mNot (tst (eFn (defM 1 [] v__law_refused_right) (aCons (vget 1) aNil))))) (sRet (cst (.bl false))) sNop) (m + 1) i (Ly sa a2 none) V = .nx (Ly sa b2 none) V'
  | 0, i, k, V, a2, hi, hp, hk => by
    have : ¬ i < 8 := by omega
    exact ⟨a2, V, by simp only [forGo, itNext, if_neg this]⟩
  | m + 1, i, k, V, a2, hi, hp, hk => by
    have e : i < 8 := by omega
    obtain ⟨L, hL⟩ : ∃ L : LSt, L = Ly sa (some (.int (0 + (i : Int)))) none := ⟨_, rfl⟩
    have v1 : ∀ U, vget 1 L U = .ok (.loc 2) U := fun U => by rw [hL]; rfl
    obtain ⟨V1, e1, p1, g1⟩ := made_ok2 hp (by omega)
    obtain ⟨V2, e2, p2, g2⟩ := refused_ok p1 (by omega)
    have st : sIf (mOr (mNot (tst (eFn (defM 1 [] v__law_made_right) (aCons (vget 1) aNil)))) (mNot (tst (eFn (defM 1 [] v__law_refused_right) (aCons (vget 1) aNil))))) (sRet (cst (.bl false))) sNop L V = .nx L V2 :=
      if_n (or_f (not_ok (b := true) (tst_ok (fn_ok (a_1 (v1 V)) rfl e1))) (not_ok (b := true) (tst_ok (fn_ok (a_1 (v1 V1)) rfl e2))))
    obtain ⟨b2, V', h⟩ := turns_ok m (i + 1) (k + 14) V2 (some (.int (0 + (i : Int)))) (by omega) p2 (by omega)
    refine ⟨b2, V', ?_⟩
    rw [← h]
    conv => lhs; unfold forGo
    have e3 : gNm 2 (.int (0 + (i : Int))) (Ly sa a2 none) V = some (L, V) := by rw [hL]; rfl
    simp only [itNext, if_pos e, e3, st]
    rw [hL]
abbrev four4 : List W := [.ins 5 [], .ins 6 [], .ins 7 [.int ((1 : Nat) : Int)], .ins 7 [.int ((2 : Nat) : Int)]]
theorem f4 : ∀ w ∈ four4, ∃ n, Fk w n := by
  intro w hw
  simp only [List.mem_cons, List.not_mem_nil, or_false] at hw
  rcases hw with rfl | rfl | rfl | rfl
  · exact ⟨_, .l⟩
  · exact ⟨_, .d⟩
  · exact ⟨_, .o (by decide)⟩
  · exact ⟨_, .o (by decide)⟩
section
variable {V : Sto} {x y : W} {n m : Nat}
theorem eqT_fk (hx : Fk x n) (hy : Fk y m) : eqT x y V = .ok (.bl (feq x y)) V := by
  have e1 : datE false x y V = .stuck := by
    have d : dat V 40 x = none := by cases hx <;> exact dat_ins
    simp only [datE, d]
  refine els_2 e1 (els_1 ?_)
  have key : ∀ {c d : Nat} {fs gs : List W} {g : BM}, du19__eq__ c = some (defM 2 [] g) → nfK 9 clsSub c (.c d) = true ∧ c < 9 → g [.ins c fs, .ins d gs] V = .ok (.bl (feq (.ins c fs) (.ins d gs))) V → eqO false 9 clsSub du19__eq__ (.ins c fs) (.ins d gs) V = .ok (.bl (feq (.ins c fs) (.ins d gs))) V := fun {c d fs gs g} h1 h2 h3 => by
    have h4 : defM 2 [] g [.ins c fs, .ins d gs] V = .ok (.bl (feq (.ins c fs) (.ins d gs))) V := h3
    simp only [eqO, objV, h1, kdW, if_pos h2, h4, NoX, Res.bind]
    rfl
  cases hx with
  | l => cases hy <;> exact key (g := v_Loses___eq__) rfl (by decide) (eql (by first | exact .l | exact .d | exact .o ‹_›))
  | d => cases hy <;> exact key (g := v_Doubles___eq__) rfl (by decide) (eqd (by first | exact .l | exact .d | exact .o ‹_›))
  | o h => cases hy <;> exact key (g := v_Overtakes___eq__) rfl (by decide) (eqo (by first | exact .l | exact .d | exact .o ‹_›))
end
section
variable {V : Sto} {sa : Addr} {a2 : Option W}
theorem eqv_bls : ∀ l : List Bool, PyData.eqvAll (l.map PyData.bool) (l.map PyData.bool) = true
  | [] => rfl
  | b :: l => by
    have : PyData.eqv (.bool b) (.bool b) = true := by cases b <;> rfl
    simp only [List.map_cons, PyData.eqvAll, eqv_bls l, this, Bool.and_true]
theorem eqv_rows {f : Nat → List Bool} : ∀ l : List Nat, PyData.eqvAll (l.map fun j => .list ((f j).map PyData.bool)) (l.map fun j => .list ((f j).map PyData.bool)) = true
  | [] => rfl
  | j :: l => by
    have : PyData.eqv (.list ((f j).map PyData.bool)) (.list ((f j).map PyData.bool)) = true := by simp only [PyData.eqv]; exact eqv_bls _
    simp only [List.map_cons, PyData.eqvAll, eqv_rows l, this, Bool.and_true]
theorem dat_bls {q : Nat} {l : List Bool} (h : V[q]? = some (.lst (l.map W.bl))) : dat V 40 (.loc q) = some (.list (l.map PyData.bool)) := by
  have bl : ∀ (m : Nat) (l : List Bool), optAll (dat V m) (l.map W.bl) = some (l.map PyData.bool) := fun m l => by
    induction l with
    | nil => rfl
    | cons b l ih =>
      have : dat V m (.bl b) = some (.bool b) := by cases m <;> rfl
      simp only [List.map_cons, optAll, this, ih]
  simp only [dat, h, bl]; rfl
theorem ne_bls {q q' : Nat} {l : List Bool} (h1 : V[q]? = some (.lst (l.map W.bl))) (h2 : V[q']? = some (.lst (l.map W.bl))) : neT (.loc q) (.loc q') V = .ok (.bl false) V := by
  refine els_1 ?_
  rw [datE_ok (dat_bls h1) (dat_bls h2)]
  have : PyData.eqv (.list (l.map PyData.bool)) (.list (l.map PyData.bool)) = true := by simp only [PyData.eqv]; exact eqv_bls l
  rw [this]; rfl
def fq (i : Nat) : List Bool := (List.range 4).map fun j => decide (i = j)
theorem fq_ok : ∀ i : Nat, i < 4 → ∀ (x : W), four4[i]? = some x → four4.map (feq x) = fq i
  | 0, _, x, h => by cases h; rfl
  | 1, _, x, h => by cases h; rfl
  | 2, _, x, h => by cases h; rfl
  | 3, _, x, h => by cases h; rfl
  | i + 4, h, _, _ => absurd h (by omega)
theorem s3_ok {q : Nat} (sa' : Addr) (sn : List Int) (hq : V[q]? = some (.lst four4)) : ∃ V', v_law_s3 sa' sn (Ly sa a2 (some (.loc q))) V = .nx (Ly sa a2 (some (.loc q))) V' ∧ Kp V V' := by
  obtain ⟨L, hL⟩ : ∃ L : LSt, L = Ly sa a2 (some (.loc q)) := ⟨_, rfl⟩
  have v3 : ∀ U, vget 3 L U = .ok (.loc q) U := fun U => by rw [hL]; rfl
  have lt := (List.getElem?_eq_some_iff.mp hq).1
  have i0 : iAny (vget 3) L V = .ok (.lst q) V := by simp only [iAny, v3, Res.bind, walkW, hq, NoX]
  have pre : ∀ T : Sto, (V ++ T)[q]? = some (.lst four4) := fun T => by rw [List.getElem?_append_left lt]; exact hq
  have A := rows_ok (g := cN 4) (vs := [4]) (ls := L) (e := eLc (iAny (vget 3)) (cN 5) tTrue (Mp.bin eqT (vget 4) (vget 5)) [5]) (it := .lst q) (B := V) (n := 4) (x := fun i => four4.getD i .non) (row := fun i => (fq i).map W.bl) i0 (by simp only [itFuel, hq]; rfl) (fun i hi T => by
    simp only [itNext, pre]
    match i, hi with
    | 0, _ => rfl
    | 1, _ => rfl
    | 2, _ => rfl
    | 3, _ => rfl
    | i + 4, h => exact absurd h (by omega)) (fun T => by simp only [itNext, pre]; rfl) (by decide) (fun i hi => by
    refine ⟨_, rfl, fun T => ?_⟩
    have hx : four4[i]? = some (four4.getD i .non) := by
      match i, hi with
      | 0, _ => rfl
      | 1, _ => rfl
      | 2, _ => rfl
      | 3, _ => rfl
      | i + 4, h => exact absurd h (by omega)
    obtain ⟨n, fx⟩ := f4 _ (List.mem_of_getElem? hx)
    rw [← fq_ok i hi _ hx]
    refine eLc_sq (ws := four4) (v := .loc q) (S1 := V ++ T) (by rw [hL]; rfl) (.inr ⟨q, rfl, pre T⟩) rfl (by decide) fun j w y h1 h2 => ?_
    rw [List.getElem?_map, List.getElem?_map, h1] at h2
    cases h2
    obtain ⟨m, fw⟩ := f4 _ (List.mem_of_getElem? h1)
    refine ⟨_, rfl, fun U => bin_ok (v := four4.getD i .non) (u := w) (S1 := U) (S2 := U) (by rw [hL]; rfl) (by rw [hL]; rfl) (eqT_fk fx fw)⟩)
  obtain ⟨V1, hV1⟩ : ∃ V1, V1 = rowsS V (fun i => (fq i).map W.bl) 4 := ⟨_, rfl⟩
  rw [← hV1] at A
  have r4 : ∀ U : Sto, iRg rg1 (aCons (cst (.int 4)) aNil) L U = .ok (.rng 0 4) U := fun U => rfl
  have C := rows_ok (g := cN 6) (vs := [6]) (ls := L) (e := eLc (iRg rg1 (aCons (cst (.int 4)) aNil)) (cN 7) tTrue (Mp.bin eqT (vget 6) (vget 7)) [7]) (it := .rng 0 4) (B := V1) (n := 4) (x := fun i => .int (0 + (i : Int))) (row := fun i => (fq i).map W.bl) (r4 V1) rfl (fun i hi T => by simp only [itNext, if_pos hi]) (fun T => by simp [itNext]) (by decide) (fun i hi => by
    refine ⟨_, rfl, fun T => ?_⟩
    obtain ⟨M, hM⟩ : ∃ M : LSt, M = (wipeL L [6]).set 6 (some (.int (0 + (i : Int)))) := ⟨_, rfl⟩
    have bN := bigN
    have hl0 : (V1 ++ T ++ [Ob.lst []])[(V1 ++ T).length]? = some (Ob.lst []) := List.getElem?_concat_length
    have k := lcGo_rng (g := cN 7) (t := tTrue) (e := Mp.bin eqT (vget 6) (vget 7)) (l0 := (V1 ++ T).length) (ls := wipeL M [7]) (lo := 0) (n := 4) (fun j => W.bl (decide (i = j))) (fun j hj => ⟨_, rfl, fun U => ⟨rfl, by
      have a6 : vget 6 ((wipeL M [7]).set 7 (some (.int (0 + (j : Int))))) U = .ok (.int (i : Int)) U := by
        rw [hM, hL]; show Res.ok (W.int (0 + (i : Int))) U = _; rw [Int.zero_add]
      have a7 : vget 7 ((wipeL M [7]).set 7 (some (.int (0 + (j : Int))))) U = .ok (.int (j : Int)) U := by
        rw [hM, hL]; show Res.ok (W.int (0 + (j : Int))) U = _; rw [Int.zero_add]
      exact bin_ok a6 a7 eq_nn⟩⟩) 4 0 (V1 ++ T ++ [.lst []]) [] rfl hl0 (by simp only [List.length_nil]; omega)
    rw [set_last, List.nil_append] at k
    have r4' : iRg rg1 (aCons (cst (.int 4)) aNil) M (V1 ++ T) = .ok (.rng 0 4) (V1 ++ T) := rfl
    rw [← hM]
    simp only [eLc, r4', Res.bind, itFuel, k]
    rfl)
  obtain ⟨V2, hV2⟩ : ∃ V2, V2 = rowsS V1 (fun i => (fq i).map W.bl) 4 := ⟨_, rfl⟩
  have k12 : Kp V1 V2 := by rw [hV2]; unfold rowsS; exact Kp.app _
  have k1 : Kp V V1 := by rw [hV1]; unfold rowsS; exact Kp.app _
  rw [← hV2] at C
  have d1 := rows_dat (B := V) (bs := fq) (n := 4) (V := V2) (by rw [← hV1]; exact k12)
  have d2 := rows_dat (B := V1) (bs := fq) (n := 4) (V := V2) (by rw [← hV2]; exact .refl)
  have ne : neT (.loc V.length) (.loc V1.length) V2 = .ok (.bl false) V2 := by
    refine els_1 ?_
    rw [datE_ok d1 d2]
    have : PyData.eqv (.list ((List.range 4).map fun j => .list ((fq j).map PyData.bool))) (.list ((List.range 4).map fun j => .list ((fq j).map PyData.bool))) = true := by simp only [PyData.eqv]; exact eqv_rows _
    rw [this]; rfl
  refine ⟨V2, ?_, k1.trans k12⟩
  rw [← hL]
  exact if_n (tbin A C ne)
theorem s4_ok {q : Nat} (sa' : Addr) (sn : List Int) (hq : V[q]? = some (.lst four4)) : ∃ V', v_law_s4 sa' sn (Ly sa a2 (some (.loc q))) V = .nx (Ly sa a2 (some (.loc q))) V' ∧ Kp V V' := by
  obtain ⟨L, hL⟩ : ∃ L : LSt, L = Ly sa a2 (some (.loc q)) := ⟨_, rfl⟩
  have v3 : ∀ U, vget 3 L U = .ok (.loc q) U := fun U => by rw [hL]; rfl
  obtain ⟨V1, hV1⟩ : ∃ V1, V1 = V ++ [Ob.lst ([true, true, true, true].map W.bl)] := ⟨_, rfl⟩
  have k1 : Kp V V1 := by rw [hV1]; exact Kp.app _
  have A : eLc (iAny (vget 3)) (cN 8) tTrue (eCall (isiA 9 clsX clsSub) (aCons (vget 8) (aCons (cst (.glo 4)) aNil))) [8] L V = .ok (.loc V.length) V1 := by
    rw [hV1]
    refine eLc_sq (ws := four4) (v3 V) (.inr ⟨q, rfl, hq⟩) rfl (by decide) fun j w y h1 h2 => ?_
    refine ⟨_, rfl, fun U => ?_⟩
    obtain ⟨m, fw⟩ := f4 _ (List.mem_of_getElem? h1)
    have i : isiA 9 clsX clsSub [w, .glo 4] U = .ok (.bl true) U := by cases fw <;> simp [clsX, clsSub]
    have hy : y = .bl true := by
      match j, h2 with
      | 0, h => cases h; rfl
      | 1, h => cases h; rfl
      | 2, h => cases h; rfl
      | 3, h => cases h; rfl
      | j + 4, h => simp at h
    rw [hy]
    have v8 : vget 8 ((wipeL L [8]).set 8 (some w)) U = .ok w U := by rw [hL]; rfl
    exact call_ok (a_c v8 (a_1 rfl)) i
  have R : LX (Mp.bin repL (eLst (aCons (cst (.bl true)) aNil)) (cst (.int 4))) L _ := (LX.lst (fun U => ⟨U, rfl, .refl⟩) (by simp)).rep (k := 4) (fun U => rfl) (by decide) (zs := [.bl true]) (by simp)
  obtain ⟨r, V2, e2, g2, k2⟩ := R V1
  have t1 := tbin A e2 (ne_bls (l := [true, true, true, true]) (k2.at (by rw [hV1]; simp)) g2)
  obtain ⟨V3, hV3⟩ : ∃ V3, V3 = V2 ++ [Ob.dead] := ⟨_, rfl⟩
  have k3 : Kp V2 V3 := by rw [hV3]; exact Kp.app _
  have n3 : eNew0 frzO 5 0 L V2 = .ok (.ins 5 []) V3 := by rw [hV3]; exact new_l
  have es : eqT (.ins 5 []) (.str "loses") V3 = .ok (.bl false) V3 := by
    have e1 : datE false (.ins 5 []) (.str "loses") V3 = .stuck := by simp only [datE, dat_ins]
    refine els_2 e1 (els_1 ?_)
    have i : isiA 9 clsX clsSub [.str "loses", .glo 5] V3 = .ok (.bl false) V3 := by simp [tyNs]
    have h4 : defM 2 [] v_Loses___eq__ [.ins 5 [], .str "loses"] V3 = .ok (.bl false) V3 := congrArg runB (ret_ok (isa1 (x := .ins 5 []) i))
    have d5 : du19__eq__ 5 = some (defM 2 [] v_Loses___eq__) := rfl
    simp only [eqO, objV, d5, kdW]
    rw [if_pos ⟨by decide, by decide⟩]
    simp only [h4, NoX, Res.bind]
    rfl
  have t2 := tbin (op := eqT) (fb := cst (.str "loses")) n3 rfl es
  have x3 : Mp.bin ixW (vget 3) (cst (.int 3)) L V3 = .ok (.ins 7 [.int ((2 : Nat) : Int)]) V3 := bin_ok (v3 V3) rfl (ix_l (i := 3) (((k1.trans k2).trans k3).at hq) rfl)
  have x4 : eAx at10_by at10_byx (Mp.bin ixW (vget 3) (cst (.int 3))) L V3 = .ok (.int 2) V3 := by
    simp only [eAx, x3, Res.bind]
    simp [at10_by]
  have t3 : tB1 (Mp.bin neT (eAx at10_by at10_byx (Mp.bin ixW (vget 3) (cst (.int 3)))) (cst (.int 2))) L V3 = .ok false V3 := tbin x4 rfl rfl
  refine ⟨V3, ?_, (k1.trans k2).trans k3⟩
  rw [← hL]
  exact if_n (or_f t1 (or_f t2 t3))
theorem newR_eq {L : LSt} : eNewR frzO 8 2 1 (fun zs => v_Channel___init__ (zs ++ [.tup []])) (aCons (cst (.int 2)) aNil) L V = eNew frzO 8 2 (defS 2 v_Channel___init__) (aCons (cst (.int 2)) aNil) L V := by
  simp only [eNewR, eNew, aCons, aNil, cst, Res.bind, defS]
  rfl
theorem two_eq : ("overtakes " : Str) ++ nm 1 = ("overtakes 1" : Str) ∧ ("overtakes " : Str) ++ nm 2 = ("overtakes 2" : Str) := by decide +kernel
theorem s5_ok {q : Nat} (sa' : Addr) (sn : List Int) (hq : V[q]? = some (.lst four4)) : ∃ V', v_law_s5 sa' sn (Ly sa a2 (some (.loc q))) V = .rt (.bl true) V' := by
  obtain ⟨L, hL⟩ : ∃ L : LSt, L = Ly sa a2 (some (.loc q)) := ⟨_, rfl⟩
  have v3 : ∀ U, vget 3 L U = .ok (.loc q) U := fun U => by rw [hL]; rfl
  have cv : eCv 8 (W.int 3) (cst (.glo 8)) L V = .ok (.int 3) V := by simp
  have b1 : Mp.bin eqT (eCv 8 (W.int 3) (cst (.glo 8))) (cst (.int 3)) L V = .ok (.bl true) V := bin_ok cv rfl rfl
  have oa : (⟨2, false, false, 0⟩ : Pt).ok := ⟨by decide, by decide⟩
  have mk : ∀ U : Sto, ∃ U', eNew frzO 8 2 (defS 2 v_Channel___init__) (aCons (cst (.int 2)) aNil) L U = .ok (⟨2, false, false, 0⟩ : Pt).ch U' ∧ Kp U U' := fun U => by
    obtain ⟨U', e, k⟩ := new_chan (c := 2) (xs := fsOf false false 0) (ls := L) (S := U) (V := U) (f := aCons (cst (.int 2)) aNil) (by decide) rfl (fs_fk (by decide)) fs_nd fs_len
    rw [fs_srt] at e
    exact ⟨U', e, k⟩
  obtain ⟨V1, e1, k1⟩ := mk V
  obtain ⟨V2, e2, k2⟩ := mk V1
  have ee := eq_g (V := V2) oa oa
  rw [decide_eq_true rfl] at ee
  have b2 : Mp.bin eqT (eNewR frzO 8 2 1 (fun zs => v_Channel___init__ (zs ++ [.tup []])) (aCons (cst (.int 2)) aNil)) (eNew frzO 8 2 (defS 2 v_Channel___init__) (aCons (cst (.int 2)) aNil)) L V = .ok (.bl true) V2 := bin_ok (newR_eq.trans e1) e2 ee
  have q2 := (k1.trans k2).at hq
  obtain ⟨zs, hzs⟩ : ∃ zs : List Str, zs = four4.map strF := ⟨_, rfl⟩
  obtain ⟨V3, hV3⟩ : ∃ V3, V3 = V2 ++ [Ob.lst (zs.map W.str)] := ⟨_, rfl⟩
  have lc : eLc (iAny (vget 3)) (cN 8) tTrue (eCall (Mp.b1 (strW du24__str__)) (aCons (vget 8) aNil)) [8] L V2 = .ok (.loc V2.length) V3 := by
    rw [hV3, hzs]
    refine eLc_sq (ws := four4) (v3 V2) (.inr ⟨q, rfl, q2⟩) (by simp) (by decide) fun j w y h1 h2 => ?_
    rw [List.getElem?_map, List.getElem?_map, h1] at h2
    cases h2
    refine ⟨_, rfl, fun U => ?_⟩
    have v8 : vget 8 ((wipeL L [8]).set 8 (some w)) U = .ok w U := by rw [hL]; rfl
    exact call1_ok v8 (str24 (f4 _ (List.mem_of_getElem? h1)))
  have g3 : V3[V2.length]? = some (.lst (zs.map W.str)) := by rw [hV3]; simp
  obtain ⟨us, hus⟩ : ∃ us : List Str, us = [("overtakes 1" : Str), ("overtakes 2" : Str)] := ⟨_, rfl⟩
  have cu : cutW (zs.map W.str) (some 2) none = us.map W.str := by
    have o1 : strF (.ins 7 [.int ((1 : Nat) : Int)]) = ("overtakes 1" : Str) := (ov_eq 1).trans two_eq.1
    have o2 : strF (.ins 7 [.int ((2 : Nat) : Int)]) = ("overtakes 2" : Str) := (ov_eq 2).trans two_eq.2
    rw [hzs, hus]
    simp only [List.map_cons, List.map_nil, o1, o2]
    rfl
  obtain ⟨V4, hV4⟩ : ∃ V4, V4 = V3 ++ [Ob.lst (us.map W.str)] := ⟨_, rfl⟩
  have k4 : Kp V3 V4 := by rw [hV4]; exact Kp.app _
  have sl : eSl (eLc (iAny (vget 3)) (cN 8) tTrue (eCall (Mp.b1 (strW du24__str__)) (aCons (vget 8) aNil)) [8]) (oSome (cst (.int 2))) oNone L V2 = .ok (.loc V3.length) V4 := by
    have o2 : oSome (cst (.int 2)) L V3 = .ok (some 2) V3 := rfl
    have s : slW (.loc V2.length) (some 2) none V3 = .ok (.loc V3.length) (V3 ++ [.lst (cutW (zs.map W.str) (some 2) none)]) := by simp only [slW, g3]
    simp only [eSl, lc, Res.bind, o2, oNone, s, NoX]
    rw [cu, hV4]
  obtain ⟨V5, hV5⟩ : ∃ V5, V5 = V4 ++ [Ob.lst (us.map W.str)] := ⟨_, rfl⟩
  have k5 : Kp V4 V5 := by rw [hV5]; exact Kp.app _
  have l5 : eLst (aCons (cst (.str "overtakes 1")) (aCons (cst (.str "overtakes 2")) aNil)) L V4 = .ok (.loc V4.length) V5 := by
    rw [hV5, hus]; exact lst_ok rfl (by decide)
  have b3 : Mp.bin eqT (eSl (eLc (iAny (vget 3)) (cN 8) tTrue (eCall (Mp.b1 (strW du24__str__)) (aCons (vget 8) aNil)) [8]) (oSome (cst (.int 2))) oNone) (eLst (aCons (cst (.str "overtakes 1")) (aCons (cst (.str "overtakes 2")) aNil))) L V2 = .ok (.bl true) V5 := bin_ok sl l5 (eq_sl (zs := us) (k5.at (by rw [hV4]; simp)) (by rw [hV5]; simp))
  refine ⟨V5, ?_⟩
  rw [← hL]
  exact ret_ok (vand_t b1 (vand_t b2 b3))
end
theorem pure_law (sa : Addr) (sn : List Int) (hlen : sn.length ≤ 63) (hbits : ∀ z ∈ sn, Builtin.Int.intBits z ≤ 1048576) : ∃ S', defM 1 [] (v_law sa sn) [.adr sa] [] = .ok (.bl true) S' := by
  obtain ⟨S, e, p⟩ := pen_ok sa sn hlen
  obtain ⟨b2, S1, e1⟩ := turns_ok (sa := sa) 8 0 0 S none rfl p (by decide)
  have t0 : v_law_s0 sa sn [some (.adr sa), none, none, none, none, none, none, none, none] [] = .nx (Ly sa none none) S := asg_ok (fn_ok (a_1 rfl) rfl e)
  have t1 : v_law_s1 sa sn (Ly sa none none) S = .nx (Ly sa b2 none) S1 := by
    have rg := irg1_ok (n := 8) (by decide) (show aCons (cst (.int 8)) aNil (Ly sa none none) S = .ok [.int ((8 : Nat) : Int)] S from rfl)
    unfold v_law_s1
    simp only [sFor, toS_ok rg, itFuel]
    exact e1
  have kw : eNewK frzO 7 1 0 1 [0, 1] [] v_Overtakes___init__ aNil (aCons (cst (.int 2)) aNil) (Ly sa b2 none) (S1 ++ [Ob.dead] ++ [Ob.dead] ++ [Ob.dead]) = .ok (.ins 7 [.int ((2 : Nat) : Int)]) (S1 ++ [Ob.dead] ++ [Ob.dead] ++ [Ob.dead] ++ [Ob.dead]) := by
    rw [← no2_ok (L := Ly sa b2 none)]
    simp only [eNewK, eNew, aCons, aNil, cst, Res.bind]
    rfl
  obtain ⟨S2, hS2⟩ : ∃ S2, S2 = S1 ++ [Ob.dead] ++ [Ob.dead] ++ [Ob.dead] ++ [Ob.dead] := ⟨_, rfl⟩
  rw [← hS2] at kw
  have l2 := lst_ok (a_c (f := eNew0 frzO 5 0) (ls := Ly sa b2 none) (S := S1) new_l (a_c new_d (a_c no1_ok (a_1 kw)))) (by simp)
  have t2 : v_law_s2 sa sn (Ly sa b2 none) S1 = .nx (Ly sa b2 (some (.loc S2.length))) (S2 ++ [.lst four4]) := asg_ok (i := 3) l2
  obtain ⟨S3, t3, k3⟩ := s3_ok (V := S2 ++ [.lst four4]) (sa := sa) (a2 := b2) (q := S2.length) sa sn (by simp)
  obtain ⟨S4, t4, k4⟩ := s4_ok (V := S3) (sa := sa) (a2 := b2) (q := S2.length) sa sn (k3.at (by simp))
  obtain ⟨S5, t5⟩ := s5_ok (V := S4) (sa := sa) (a2 := b2) (q := S2.length) sa sn ((k3.trans k4).at (by simp))
  exact ⟨S5, congrArg runB (seq_nx t0 (seq_nx t1 (seq_nx t2 (seq_nx t3 (seq_nx t4 t5)))))⟩
end
end Lw
set_option Elab.async false
set_option linter.all false
set_option maxRecDepth 100000
set_option maxHeartbeats 0
namespace Lw
open PySem PySem.Spec PyProof.Rows L2 Mp
open He (ga ma)
def clsN : List Str := ["LinkError", "BadChannel", "BadText", "Words", "Fault", "Loses", "Doubles", "Overtakes", "Channel"]
def fldN : List (List Str) := [[], ["part"], ["word", "line"], ["words", "line", "at"], [], [], [], ["by"], ["capacity", "faults"]]
def gbK (K : PySem.W.Frag) : Gb := ⟨K, fun c => ga K (clsN.getD c ""), fun c => fldN.getD c [], fun c => ga K (clsN.getD c "")⟩
theorem clsX_lt : ∀ c, clsX c = true → c < 9 := fun c h => by
  have h2 := List.contains_iff_mem.mp h
  simp only [List.mem_cons, List.not_mem_nil, or_false] at h2
  omega
def ex0 : PySem.W.Frag → Bool := fun K => kitB (gbK K) 9 clsSub
def ex1 : PySem.W.Frag → Bool := fun K => eqB (gbK K) 9 clsSub
def ex2 : PySem.W.Frag → Bool := fun K => xmB (gbK K) 9 clsX clsSub
def ex3 : PySem.W.Frag → Bool := fun K => veB (gbK K) 9 clsX "ValueError"
def ex4 : PySem.W.Frag → Bool := fun K => He.eqO (PySem.W.findIn K (.ref (ga K "Channel")) "__len__") (some none)
def ex5 : PySem.W.Frag → Bool := fun K => He.eqO (PySem.W.findIn K (.ref (ga K "Channel")) "__length_hint__") (some none)
def ex6 : PySem.W.Frag → Bool := fun K => gloB K "_wall"
def ex7 : PySem.W.Frag → Bool := fun K => gloB K "is_integer"
def ex8 : PySem.W.Frag → Bool := fun K => gloB K "is_within"
def ex9 : PySem.W.Frag → Bool := fun K => gloB K "is_kind"
def ex10 : PySem.W.Frag → Bool := fun K => gloB K "told_faults"
def ex11 : PySem.W.Frag → Bool := fun K => gloB K "need_channel"
def ex12 : PySem.W.Frag → Bool := fun K => gloB K "_law_pen"
def ex13 : PySem.W.Frag → Bool := fun K => gloB K "_law_draw"
def ex14 : PySem.W.Frag → Bool := fun K => gloB K "_law_pick"
def ex15 : PySem.W.Frag → Bool := fun K => gloB K "_law_four"
def ex16 : PySem.W.Frag → Bool := fun K => gloB K "_law_faults"
def ex17 : PySem.W.Frag → Bool := fun K => gloB K "_law_channel"
def ex18 : PySem.W.Frag → Bool := fun K => gloB K "_law_told"
def ex19 : PySem.W.Frag → Bool := fun K => gloB K "_law_made_right"
def ex20 : PySem.W.Frag → Bool := fun K => gloB K "_law_refused_right"
def ex21 : PySem.W.Frag → Bool := fun K => gloB K "law"
def ex22 : PySem.W.Frag → Bool := fun K => gloB K "made_channel"
def ex23 : PySem.W.Frag → Bool := fun K => gloB K "channel_from"
def ex24 : PySem.W.Frag → Bool := fun K => gloB K "_law_heard"
def ex25 : PySem.W.Frag → Bool := fun K => freeB K "isinstance"
def ex26 : PySem.W.Frag → Bool := fun K => freeB K "int"
def ex27 : PySem.W.Frag → Bool := fun K => freeB K "bool"
def ex28 : PySem.W.Frag → Bool := fun K => freeB K "str"
def ex29 : PySem.W.Frag → Bool := fun K => freeB K "len"
def ex30 : PySem.W.Frag → Bool := fun K => freeB K "all"
def ex31 : PySem.W.Frag → Bool := fun K => freeB K "set"
def ex32 : PySem.W.Frag → Bool := fun K => freeB K "tuple"
def ex33 : PySem.W.Frag → Bool := fun K => freeB K "range"
def ex34 : PySem.W.Frag → Bool := fun K => freeB K "sum"
def ex35 : PySem.W.Frag → Bool := fun K => freeB K "iter"
def ex36 : PySem.W.Frag → Bool := fun K => freeB K "list"
def ex37 : PySem.W.Frag → Bool := fun K => freeB K "abs"
def ex38 : PySem.W.Frag → Bool := fun K => freeB K "ValueError"
def ex39 : PySem.W.Frag → Bool := fun K => freeB K "repr"
def ex40 : PySem.W.Frag → Bool := fun K => freeB K "min"
def ex41 : PySem.W.Frag → Bool := fun K => freeB K "max"
def ex42 : PySem.W.Frag → Bool := fun K => gloB K "LinkError"
def ex43 : PySem.W.Frag → Bool := fun K => gloB K "LinkError"
def ex44 : PySem.W.Frag → Bool := fun K => gloB K "BadChannel"
def ex45 : PySem.W.Frag → Bool := fun K => gloB K "BadChannel"
def ex46 : PySem.W.Frag → Bool := fun K => gloB K "BadText"
def ex47 : PySem.W.Frag → Bool := fun K => gloB K "BadText"
def ex48 : PySem.W.Frag → Bool := fun K => gloB K "Words"
def ex49 : PySem.W.Frag → Bool := fun K => gloB K "Words"
def ex50 : PySem.W.Frag → Bool := fun K => clsB K ((gbK K).cls 3)
def ex51 : PySem.W.Frag → Bool := fun K => clsFB (gbK K) 3
def ex52 : PySem.W.Frag → Bool := fun K => mkB K (ga K "Words") (ma K (ga K "Words") "__init__")
def ex53 : PySem.W.Frag → Bool := fun K => gloB K "Fault"
def ex54 : PySem.W.Frag → Bool := fun K => gloB K "Fault"
def ex55 : PySem.W.Frag → Bool := fun K => clsB K ((gbK K).cls 4)
def ex56 : PySem.W.Frag → Bool := fun K => clsFB (gbK K) 4
def ex57 : PySem.W.Frag → Bool := fun K => gloB K "Loses"
def ex58 : PySem.W.Frag → Bool := fun K => gloB K "Loses"
def ex59 : PySem.W.Frag → Bool := fun K => clsB K ((gbK K).cls 5)
def ex60 : PySem.W.Frag → Bool := fun K => clsFB (gbK K) 5
def ex61 : PySem.W.Frag → Bool := fun K => gloB K "Doubles"
def ex62 : PySem.W.Frag → Bool := fun K => gloB K "Doubles"
def ex63 : PySem.W.Frag → Bool := fun K => clsB K ((gbK K).cls 6)
def ex64 : PySem.W.Frag → Bool := fun K => clsFB (gbK K) 6
def ex65 : PySem.W.Frag → Bool := fun K => gloB K "Overtakes"
def ex66 : PySem.W.Frag → Bool := fun K => gloB K "Overtakes"
def ex67 : PySem.W.Frag → Bool := fun K => clsB K ((gbK K).cls 7)
def ex68 : PySem.W.Frag → Bool := fun K => clsFB (gbK K) 7
def ex69 : PySem.W.Frag → Bool := fun K => mkB K (ga K "Overtakes") (ma K (ga K "Overtakes") "__init__")
def ex70 : PySem.W.Frag → Bool := fun K => gloB K "Channel"
def ex71 : PySem.W.Frag → Bool := fun K => gloB K "Channel"
def ex72 : PySem.W.Frag → Bool := fun K => clsB K ((gbK K).cls 8)
def ex73 : PySem.W.Frag → Bool := fun K => clsFB (gbK K) 8
def ex74 : PySem.W.Frag → Bool := fun K => mkB K (ga K "Channel") (ma K (ga K "Channel") "__init__")
def ex75 : PySem.W.Frag → Bool := fun K => decide (PySem.W.typeIn K (.ref (ma K (ga K "BadChannel") "__init__")) = some (.type "function"))
def ex76 : PySem.W.Frag → Bool := fun K => decide (PySem.W.typeIn K (.ref (ma K (ga K "BadText") "__init__")) = some (.type "function"))
def ex77 : PySem.W.Frag → Bool := fun K => exCB (gbK K) 1 ["part"]
def ex78 : PySem.W.Frag → Bool := fun K => He.eqO (PySem.W.findIn K (.ref (ga K "BadChannel")) "__init__") (some (some (.ref (ma K (ga K "BadChannel") "__init__"))))
def ex79 : PySem.W.Frag → Bool := fun K => exCB (gbK K) 2 ["line", "word"]
def ex80 : PySem.W.Frag → Bool := fun K => He.eqO (PySem.W.findIn K (.ref (ga K "BadText")) "__init__") (some (some (.ref (ma K (ga K "BadText") "__init__"))))
def ex81 : PySem.W.Frag → Bool := fun K => propB K (ga K "Channel") "doubles" (ma K (ga K "Channel") "doubles") (pgA K (ga K "Channel") "doubles")
def ex82 : PySem.W.Frag → Bool := fun K => propB K (ga K "Channel") "loses" (ma K (ga K "Channel") "loses") (pgA K (ga K "Channel") "loses")
def ex83 : PySem.W.Frag → Bool := fun K => propB K (ga K "Channel") "overtakes" (ma K (ga K "Channel") "overtakes") (pgA K (ga K "Channel") "overtakes")
def ex84 : PySem.W.Frag → Bool := fun K => crB K ((gbK K).glo 8)
def ex85 : PySem.W.Frag → Bool := fun K => cvB K ((gbK K).glo 8) (.type "type") "MOST" (V.int (3))
def ex86 : PySem.W.Frag → Bool := fun K => conB' K ((gbK K).cls 6) "ORDER" (V.int (1))
def ex87 : PySem.W.Frag → Bool := fun K => conB' K ((gbK K).cls 5) "ORDER" (V.int (0))
def ex88 : PySem.W.Frag → Bool := fun K => conB' K ((gbK K).cls 7) "ORDER" (V.int (2))
def ex89 : PySem.W.Frag → Bool := fun K => mk0B K ((gbK K).cls 6)
def ex90 : PySem.W.Frag → Bool := fun K => mk0B K ((gbK K).cls 5)
def ex91 : PySem.W.Frag → Bool := fun K => methB K (ga K "Words") "ask" (ma K (ga K "Words") "ask")
def ex92 : PySem.W.Frag → Bool := fun K => methB K (ga K "Words") "close" (ma K (ga K "Words") "close")
def ex93 : PySem.W.Frag → Bool := fun K => methB K (ga K "Words") "integer" (ma K (ga K "Words") "integer")
def ex94 : PySem.W.Frag → Bool := fun K => methB K (ga K "Words") "one_of" (ma K (ga K "Words") "one_of")
def ex95 : PySem.W.Frag → Bool := fun K => methB K (ga K "Words") "peek" (ma K (ga K "Words") "peek")
def ex96 : PySem.W.Frag → Bool := fun K => methB K (ga K "Words") "read_if" (ma K (ga K "Words") "read_if")
def ex97 : PySem.W.Frag → Bool := fun K => He.eqO (PySem.W.findIn K (.ref (ga K "Channel")) "__contains__") (some (some (.ref (ma K (ga K "Channel") "__contains__"))))
def ex98 : PySem.W.Frag → Bool := fun K => PySem.W.isFn K (.ref (ma K (ga K "Channel") "__contains__"))
def ex99 : PySem.W.Frag → Bool := fun K => He.eqO (PySem.W.findIn K (.ref (ga K "Channel")) "__eq__") (some (some (.ref (ma K (ga K "Channel") "__eq__"))))
def ex100 : PySem.W.Frag → Bool := fun K => PySem.W.isFn K (.ref (ma K (ga K "Channel") "__eq__"))
def ex101 : PySem.W.Frag → Bool := fun K => He.eqO (PySem.W.findIn K (.ref (ga K "Channel")) "__iter__") (some (some (.ref (ma K (ga K "Channel") "__iter__"))))
def ex102 : PySem.W.Frag → Bool := fun K => PySem.W.isFn K (.ref (ma K (ga K "Channel") "__iter__"))
def ex103 : PySem.W.Frag → Bool := fun K => He.eqO (PySem.W.findIn K (.ref (ga K "Channel")) "__or__") (some (some (.ref (ma K (ga K "Channel") "__or__"))))
def ex104 : PySem.W.Frag → Bool := fun K => PySem.W.isFn K (.ref (ma K (ga K "Channel") "__or__"))
def ex105 : PySem.W.Frag → Bool := fun K => He.eqO (PySem.W.findIn K (.ref (ga K "Channel")) "__str__") (some (some (.ref (ma K (ga K "Channel") "__str__"))))
def ex106 : PySem.W.Frag → Bool := fun K => PySem.W.isFn K (.ref (ma K (ga K "Channel") "__str__"))
def ex107 : PySem.W.Frag → Bool := fun K => He.eqO (PySem.W.findIn K (.ref (ga K "Doubles")) "__eq__") (some (some (.ref (ma K (ga K "Doubles") "__eq__"))))
def ex108 : PySem.W.Frag → Bool := fun K => PySem.W.isFn K (.ref (ma K (ga K "Doubles") "__eq__"))
def ex109 : PySem.W.Frag → Bool := fun K => He.eqO (PySem.W.findIn K (.ref (ga K "Doubles")) "__str__") (some (some (.ref (ma K (ga K "Doubles") "__str__"))))
def ex110 : PySem.W.Frag → Bool := fun K => PySem.W.isFn K (.ref (ma K (ga K "Doubles") "__str__"))
def ex111 : PySem.W.Frag → Bool := fun K => He.eqO (PySem.W.findIn K (.ref (ga K "Fault")) "__eq__") (some (some (.ref (ma K (ga K "Fault") "__eq__"))))
def ex112 : PySem.W.Frag → Bool := fun K => PySem.W.isFn K (.ref (ma K (ga K "Fault") "__eq__"))
def ex113 : PySem.W.Frag → Bool := fun K => He.eqO (PySem.W.findIn K (.ref (ga K "Fault")) "__str__") (some (some (.ref (ma K (ga K "Fault") "__str__"))))
def ex114 : PySem.W.Frag → Bool := fun K => PySem.W.isFn K (.ref (ma K (ga K "Fault") "__str__"))
def ex115 : PySem.W.Frag → Bool := fun K => He.eqO (PySem.W.findIn K (.ref (ga K "Loses")) "__eq__") (some (some (.ref (ma K (ga K "Loses") "__eq__"))))
def ex116 : PySem.W.Frag → Bool := fun K => PySem.W.isFn K (.ref (ma K (ga K "Loses") "__eq__"))
def ex117 : PySem.W.Frag → Bool := fun K => He.eqO (PySem.W.findIn K (.ref (ga K "Loses")) "__str__") (some (some (.ref (ma K (ga K "Loses") "__str__"))))
def ex118 : PySem.W.Frag → Bool := fun K => PySem.W.isFn K (.ref (ma K (ga K "Loses") "__str__"))
def ex119 : PySem.W.Frag → Bool := fun K => He.eqO (PySem.W.findIn K (.ref (ga K "Overtakes")) "__eq__") (some (some (.ref (ma K (ga K "Overtakes") "__eq__"))))
def ex120 : PySem.W.Frag → Bool := fun K => PySem.W.isFn K (.ref (ma K (ga K "Overtakes") "__eq__"))
def ex121 : PySem.W.Frag → Bool := fun K => He.eqO (PySem.W.findIn K (.ref (ga K "Overtakes")) "__str__") (some (some (.ref (ma K (ga K "Overtakes") "__str__"))))
def ex122 : PySem.W.Frag → Bool := fun K => PySem.W.isFn K (.ref (ma K (ga K "Overtakes") "__str__"))
def ex123 : PySem.W.Frag → Bool := fun K => He.eqO (PySem.W.findIn K (.ref (ga K "Channel")) "__ne__") (some (some (.builtin "object.__ne__")))
def ex124 : PySem.W.Frag → Bool := fun K => He.eqO (PySem.W.findIn K (.ref (ga K "Doubles")) "__ne__") (some (some (.builtin "object.__ne__")))
def ex125 : PySem.W.Frag → Bool := fun K => He.eqO (PySem.W.findIn K (.ref (ga K "Fault")) "__ne__") (some (some (.builtin "object.__ne__")))
def ex126 : PySem.W.Frag → Bool := fun K => He.eqO (PySem.W.findIn K (.ref (ga K "Loses")) "__ne__") (some (some (.builtin "object.__ne__")))
def ex127 : PySem.W.Frag → Bool := fun K => He.eqO (PySem.W.findIn K (.ref (ga K "Overtakes")) "__ne__") (some (some (.builtin "object.__ne__")))
def ex128 : PySem.W.Frag → Bool := fun K => opLB (gbK K) "or" [8] [3, 4, 5, 6, 7]
def ex129 : PySem.W.Frag → Bool := fun K => conB K "MOST_OVERTAKEN" (V.int (2))
def ex130 : PySem.W.Frag → Bool := fun K => xcAllB (gbK K) 9 clsX
def exL : List (PySem.W.Frag → Bool) := [ex0, ex1, ex2, ex3, ex4, ex5, ex6, ex7, ex8, ex9, ex10, ex11, ex12, ex13, ex14, ex15, ex16, ex17, ex18, ex19, ex20, ex21, ex22, ex23, ex24, ex25, ex26, ex27, ex28, ex29, ex30, ex31, ex32, ex33, ex34, ex35, ex36, ex37, ex38, ex39, ex40, ex41, ex42, ex43, ex44, ex45, ex46, ex47, ex48, ex49, ex50, ex51, ex52, ex53, ex54, ex55, ex56, ex57, ex58, ex59, ex60, ex61, ex62, ex63, ex64, ex65, ex66, ex67, ex68, ex69, ex70, ex71, ex72, ex73, ex74, ex75, ex76, ex77, ex78, ex79, ex80, ex81, ex82, ex83, ex84, ex85, ex86, ex87, ex88, ex89, ex90, ex91, ex92, ex93, ex94, ex95, ex96, ex97, ex98, ex99, ex100, ex101, ex102, ex103, ex104, ex105, ex106, ex107, ex108, ex109, ex110, ex111, ex112, ex113, ex114, ex115, ex116, ex117, ex118, ex119, ex120, ex121, ex122, ex123, ex124, ex125, ex126, ex127, ex128, ex129, ex130]
def exB (K : PySem.W.Frag) : Bool := exL.all fun f => f K
def fd_0 : Fd := ⟨fun K => (ga K "_wall"), "_wall", "_wall", defArgs (top 0), defBody (top 0), defScope (top 0), [], []⟩
def fd_1 : Fd := ⟨fun K => (ga K "is_integer"), "is_integer", "is_integer", defArgs (top 2), defBody (top 2), defScope (top 2), [], []⟩
def fd_2 : Fd := ⟨fun K => (ga K "is_within"), "is_within", "is_within", defArgs (top 3), defBody (top 3), defScope (top 3), [], []⟩
def fd_3 : Fd := ⟨fun K => (ma K (ga K "Words") "__init__"), "__init__", "Words.__init__", defArgs (mth 9 0), defBody (mth 9 0), defScope (mth 9 0), [(He.Dv.int (0))], []⟩
def fd_4 : Fd := ⟨fun K => (ma K (ga K "Words") "peek"), "peek", "Words.peek", defArgs (mth 9 1), defBody (mth 9 1), defScope (mth 9 1), [], []⟩
def fd_5 : Fd := ⟨fun K => (ma K (ga K "Words") "ask"), "ask", "Words.ask", defArgs (mth 9 2), defBody (mth 9 2), defScope (mth 9 2), [], []⟩
def fd_6 : Fd := ⟨fun K => (ma K (ga K "Words") "read_if"), "read_if", "Words.read_if", defArgs (mth 9 4), defBody (mth 9 4), defScope (mth 9 4), [], []⟩
def fd_7 : Fd := ⟨fun K => (ma K (ga K "Words") "some"), "some", "Words.some", defArgs (mth 9 5), defBody (mth 9 5), defScope (mth 9 5), [], []⟩
def fd_8 : Fd := ⟨fun K => (ma K (ga K "Words") "close"), "close", "Words.close", defArgs (mth 9 8), defBody (mth 9 8), defScope (mth 9 8), [], []⟩
def fd_9 : Fd := ⟨fun K => (ma K (ga K "Fault") "__eq__"), "__eq__", "Fault.__eq__", defArgs (mth 12 0), defBody (mth 12 0), defScope (mth 12 0), [], []⟩
def fd_10 : Fd := ⟨fun K => (ma K (ga K "Fault") "__str__"), "__str__", "Fault.__str__", defArgs (mth 12 1), defBody (mth 12 1), defScope (mth 12 1), [], []⟩
def fd_11 : Fd := ⟨fun K => (ma K (ga K "Loses") "__eq__"), "__eq__", "Loses.__eq__", defArgs (mth 13 1), defBody (mth 13 1), defScope (mth 13 1), [], []⟩
def fd_12 : Fd := ⟨fun K => (ma K (ga K "Loses") "__str__"), "__str__", "Loses.__str__", defArgs (mth 13 2), defBody (mth 13 2), defScope (mth 13 2), [], []⟩
def fd_13 : Fd := ⟨fun K => (ma K (ga K "Doubles") "__eq__"), "__eq__", "Doubles.__eq__", defArgs (mth 14 1), defBody (mth 14 1), defScope (mth 14 1), [], []⟩
def fd_14 : Fd := ⟨fun K => (ma K (ga K "Doubles") "__str__"), "__str__", "Doubles.__str__", defArgs (mth 14 2), defBody (mth 14 2), defScope (mth 14 2), [], []⟩
def fd_15 : Fd := ⟨fun K => (ma K (ga K "Overtakes") "__init__"), "__init__", "Overtakes.__init__", defArgs (mth 15 1), defBody (mth 15 1), defScope (mth 15 1), [], []⟩
def fd_16 : Fd := ⟨fun K => (ma K (ga K "Overtakes") "__eq__"), "__eq__", "Overtakes.__eq__", defArgs (mth 15 2), defBody (mth 15 2), defScope (mth 15 2), [], []⟩
def fd_17 : Fd := ⟨fun K => (ma K (ga K "Overtakes") "__str__"), "__str__", "Overtakes.__str__", defArgs (mth 15 3), defBody (mth 15 3), defScope (mth 15 3), [], []⟩
def fd_18 : Fd := ⟨fun K => (ga K "is_kind"), "is_kind", "is_kind", defArgs (top 16), defBody (top 16), defScope (top 16), [], []⟩
def fd_19 : Fd := ⟨fun K => (ga K "told_faults"), "told_faults", "told_faults", defArgs (top 17), defBody (top 17), defScope (top 17), [], []⟩
def fd_20 : Fd := ⟨fun K => (ma K (ga K "Channel") "__init__"), "__init__", "Channel.__init__", defArgs (mth 19 1), defBody (mth 19 1), defScope (mth 19 1), [], []⟩
def fd_21 : Fd := ⟨fun K => (pgA K (ga K "Channel") "loses"), "loses", "Channel.loses", defArgs (mth 19 2), defBody (mth 19 2), defScope (mth 19 2), [], []⟩
def fd_22 : Fd := ⟨fun K => (pgA K (ga K "Channel") "doubles"), "doubles", "Channel.doubles", defArgs (mth 19 3), defBody (mth 19 3), defScope (mth 19 3), [], []⟩
def fd_23 : Fd := ⟨fun K => (pgA K (ga K "Channel") "overtakes"), "overtakes", "Channel.overtakes", defArgs (mth 19 4), defBody (mth 19 4), defScope (mth 19 4), [], []⟩
def fd_24 : Fd := ⟨fun K => (ma K (ga K "Channel") "__contains__"), "__contains__", "Channel.__contains__", defArgs (mth 19 6), defBody (mth 19 6), defScope (mth 19 6), [], []⟩
def fd_25 : Fd := ⟨fun K => (ma K (ga K "Channel") "__sub__"), "__sub__", "Channel.__sub__", defArgs (mth 19 8), defBody (mth 19 8), defScope (mth 19 8), [], []⟩
def fd_26 : Fd := ⟨fun K => (ma K (ga K "Channel") "__eq__"), "__eq__", "Channel.__eq__", defArgs (mth 19 12), defBody (mth 19 12), defScope (mth 19 12), [], []⟩
def fd_27 : Fd := ⟨fun K => (ma K (ga K "Channel") "__str__"), "__str__", "Channel.__str__", defArgs (mth 19 13), defBody (mth 19 13), defScope (mth 19 13), [], []⟩
def fd_28 : Fd := ⟨fun K => (ga K "need_channel"), "need_channel", "need_channel", defArgs (top 20), defBody (top 20), defScope (top 20), [], []⟩
def fd_29 : Fd := ⟨fun K => (ga K "_law_pen"), "_law_pen", "_law_pen", defArgs (top 23), defBody (top 23), defScope (top 23), [], []⟩
def fd_30 : Fd := ⟨fun K => (ga K "_law_draw"), "_law_draw", "_law_draw", defArgs (top 24), defBody (top 24), defScope (top 24), [], []⟩
def fd_31 : Fd := ⟨fun K => (ga K "_law_pick"), "_law_pick", "_law_pick", defArgs (top 25), defBody (top 25), defScope (top 25), [], []⟩
def fd_32 : Fd := ⟨fun K => (ga K "_law_four"), "_law_four", "_law_four", defArgs (top 26), defBody (top 26), defScope (top 26), [], []⟩
def fd_33 : Fd := ⟨fun K => (ga K "_law_faults"), "_law_faults", "_law_faults", defArgs (top 27), defBody (top 27), defScope (top 27), [], []⟩
def fd_34 : Fd := ⟨fun K => (ga K "_law_channel"), "_law_channel", "_law_channel", defArgs (top 28), defBody (top 28), defScope (top 28), [], []⟩
def fd_35 : Fd := ⟨fun K => (ga K "_law_told"), "_law_told", "_law_told", defArgs (top 29), defBody (top 29), defScope (top 29), [], []⟩
def fd_36 : Fd := ⟨fun K => (ga K "_law_made_right"), "_law_made_right", "_law_made_right", defArgs (top 31), defBody (top 31), defScope (top 31), [], []⟩
def fd_37 : Fd := ⟨fun K => (ga K "_law_refused_right"), "_law_refused_right", "_law_refused_right", defArgs (top 32), defBody (top 32), defScope (top 32), [], []⟩
def fd_38 : Fd := ⟨fun K => (ga K "law"), "law", "law", defArgs (top 33), defBody (top 33), defScope (top 33), [], []⟩
def fd_39 : Fd := ⟨fun K => (ma K (ga K "Words") "one_of"), "one_of", "Words.one_of", defArgs (mth 9 3), defBody (mth 9 3), defScope (mth 9 3), [], []⟩
def fd_40 : Fd := ⟨fun K => (ma K (ga K "Words") "integer"), "integer", "Words.integer", defArgs (mth 9 7), defBody (mth 9 7), defScope (mth 9 7), [], []⟩
def fd_41 : Fd := ⟨fun K => (ga K "made_channel"), "made_channel", "made_channel", defArgs (top 18), defBody (top 18), defScope (top 18), [], []⟩
def fd_42 : Fd := ⟨fun K => (ma K (ga K "Channel") "__and__"), "__and__", "Channel.__and__", defArgs (mth 19 9), defBody (mth 19 9), defScope (mth 19 9), [], []⟩
def fd_43 : Fd := ⟨fun K => (ma K (ga K "Channel") "__or__"), "__or__", "Channel.__or__", defArgs (mth 19 10), defBody (mth 19 10), defScope (mth 19 10), [], []⟩
def fd_44 : Fd := ⟨fun K => (ga K "channel_from"), "channel_from", "channel_from", defArgs (top 21), defBody (top 21), defScope (top 21), [], []⟩
def fd_45 : Fd := ⟨fun K => (ma K (ga K "Channel") "__add__"), "__add__", "Channel.__add__", defArgs (mth 19 7), defBody (mth 19 7), defScope (mth 19 7), [], []⟩
def fd_46 : Fd := ⟨fun K => (cmA K (ga K "Channel") "read"), "read", "Channel.read", defArgs (mth 19 14), defBody (mth 19 14), defScope (mth 19 14), [], []⟩
def fd_47 : Fd := ⟨fun K => (ga K "_law_heard"), "_law_heard", "_law_heard", defArgs (top 30), defBody (top 30), defScope (top 30), [], []⟩
def fd_48 : Fd := ⟨fun K => (ma K (ga K "Channel") "__iter__"), "__iter__", "Channel.__iter__", defArgs (mth 19 5), defBody (mth 19 5), defScope (mth 19 5), [], []⟩
def fd_49 : Fd := ⟨fun K => (ma K (ga K "BadChannel") "__init__"), "__init__", "BadChannel.__init__", defArgs (mth 6 0), defBody (mth 6 0), defScope (mth 6 0), [], []⟩
def fd_50 : Fd := ⟨fun K => (ma K (ga K "BadText") "__init__"), "__init__", "BadText.__init__", defArgs (mth 7 0), defBody (mth 7 0), defScope (mth 7 0), [], []⟩
def fnL : List Fd := [fd_0, fd_1, fd_2, fd_3, fd_4, fd_5, fd_6, fd_7, fd_8, fd_9, fd_10, fd_11, fd_12, fd_13, fd_14, fd_15, fd_16, fd_17, fd_18, fd_19, fd_20, fd_21, fd_22, fd_23, fd_24, fd_25, fd_26, fd_27, fd_28, fd_29, fd_30, fd_31, fd_32, fd_33, fd_34, fd_35, fd_36, fd_37, fd_38, fd_39, fd_40, fd_41, fd_42, fd_43, fd_44, fd_45, fd_46, fd_47, fd_48, fd_49, fd_50]
def tfL : List Ct := [fun K => (ga K "_law_refused_right")]
def dsL : List Tb := []
abbrev hk : PySem.W.Hook := hookT 6 exB fnL tfL dsL
def ob (s : PySem.W.SharedT) : AlT := obTG 6 exB fnL tfL dsL (HandSHeadRun.getT s)
theorem tp_ok {w : World} {h : Heap} {K : PySem.W.Frag} {mg : Str → Option Value} (KX : K.In h) (NS : h.Ns mainGlobals mg) (c : SaysT exB fnL tfL dsL w h K) : ∃ T : Tp w K mg (gbK K), T.a_law = ga K "law" ∧ T.c__law_refused_right = cdA K (ga K "_law_refused_right") ∧ T.P__law_refused_right = He.tabOf K (cdA K (ga K "_law_refused_right")) ∧ True := by
  have EX : ∀ (i : Nat) {f : PySem.W.Frag → Bool}, (exL[i]? = some f) → f K = true := fun i f e => al c.m.ex f (List.mem_of_getElem? e)
  have XC : ∀ c, clsX c = true → XcF (gbK K) c := xcAllB_ok (EX 130 (f := ex130) rfl) clsX_lt
  obtain ⟨fd0, F0⟩ := c.m.df 0 fd_0 rfl
  obtain ⟨fd1, F1⟩ := c.m.df 1 fd_1 rfl
  obtain ⟨fd2, F2⟩ := c.m.df 2 fd_2 rfl
  obtain ⟨fd3, F3⟩ := c.m.df 3 fd_3 rfl
  obtain ⟨fd4, F4⟩ := c.m.df 4 fd_4 rfl
  obtain ⟨fd5, F5⟩ := c.m.df 5 fd_5 rfl
  obtain ⟨fd6, F6⟩ := c.m.df 6 fd_6 rfl
  obtain ⟨fd7, F7⟩ := c.m.df 7 fd_7 rfl
  obtain ⟨fd8, F8⟩ := c.m.df 8 fd_8 rfl
  obtain ⟨fd9, F9⟩ := c.m.df 9 fd_9 rfl
  obtain ⟨fd10, F10⟩ := c.m.df 10 fd_10 rfl
  obtain ⟨fd11, F11⟩ := c.m.df 11 fd_11 rfl
  obtain ⟨fd12, F12⟩ := c.m.df 12 fd_12 rfl
  obtain ⟨fd13, F13⟩ := c.m.df 13 fd_13 rfl
  obtain ⟨fd14, F14⟩ := c.m.df 14 fd_14 rfl
  obtain ⟨fd15, F15⟩ := c.m.df 15 fd_15 rfl
  obtain ⟨fd16, F16⟩ := c.m.df 16 fd_16 rfl
  obtain ⟨fd17, F17⟩ := c.m.df 17 fd_17 rfl
  obtain ⟨fd18, F18⟩ := c.m.df 18 fd_18 rfl
  obtain ⟨fd19, F19⟩ := c.m.df 19 fd_19 rfl
  obtain ⟨fd20, F20⟩ := c.m.df 20 fd_20 rfl
  obtain ⟨fd21, F21⟩ := c.m.df 21 fd_21 rfl
  obtain ⟨fd22, F22⟩ := c.m.df 22 fd_22 rfl
  obtain ⟨fd23, F23⟩ := c.m.df 23 fd_23 rfl
  obtain ⟨fd24, F24⟩ := c.m.df 24 fd_24 rfl
  obtain ⟨fd25, F25⟩ := c.m.df 25 fd_25 rfl
  obtain ⟨fd26, F26⟩ := c.m.df 26 fd_26 rfl
  obtain ⟨fd27, F27⟩ := c.m.df 27 fd_27 rfl
  obtain ⟨fd28, F28⟩ := c.m.df 28 fd_28 rfl
  obtain ⟨fd29, F29⟩ := c.m.df 29 fd_29 rfl
  obtain ⟨fd30, F30⟩ := c.m.df 30 fd_30 rfl
  obtain ⟨fd31, F31⟩ := c.m.df 31 fd_31 rfl
  obtain ⟨fd32, F32⟩ := c.m.df 32 fd_32 rfl
  obtain ⟨fd33, F33⟩ := c.m.df 33 fd_33 rfl
  obtain ⟨fd34, F34⟩ := c.m.df 34 fd_34 rfl
  obtain ⟨fd35, F35⟩ := c.m.df 35 fd_35 rfl
  obtain ⟨fd36, F36⟩ := c.m.df 36 fd_36 rfl
  obtain ⟨fd37, F37⟩ := c.m.df 37 fd_37 rfl
  obtain ⟨fd38, F38⟩ := c.m.df 38 fd_38 rfl
  obtain ⟨fd39, F39⟩ := c.m.df 39 fd_39 rfl
  obtain ⟨fd40, F40⟩ := c.m.df 40 fd_40 rfl
  obtain ⟨fd41, F41⟩ := c.m.df 41 fd_41 rfl
  obtain ⟨fd42, F42⟩ := c.m.df 42 fd_42 rfl
  obtain ⟨fd43, F43⟩ := c.m.df 43 fd_43 rfl
  obtain ⟨fd44, F44⟩ := c.m.df 44 fd_44 rfl
  obtain ⟨fd45, F45⟩ := c.m.df 45 fd_45 rfl
  obtain ⟨fd46, F46⟩ := c.m.df 46 fd_46 rfl
  obtain ⟨fd47, F47⟩ := c.m.df 47 fd_47 rfl
  obtain ⟨fd48, F48⟩ := c.m.df 48 fd_48 rfl
  obtain ⟨fd49, F49⟩ := c.m.df 49 fd_49 rfl
  obtain ⟨fd50, F50⟩ := c.m.df 50 fd_50 rfl
  exact ⟨{
    hK := rfl
    kit := kitB_ok (n := 9) (EX 0 (f := ex0) rfl)
    eqt := eqB_ok (n := 9) (EX 1 (f := ex1) rfl)
    xcf := XC
    xm := xmB_ok (EX 2 (f := ex2) rfl) clsX_lt
    ve_ValueError := veB_ok (EX 3 (f := ex3) rfl) clsX_lt
    nl_Channel := He.eqO_ok (EX 4 (f := ex4) rfl)
    nh_Channel := He.eqO_ok (EX 5 (f := ex5) rfl)
    a__wall := (ga K "_wall")
    fd__wall := fd0
    F__wall := F0
    g__wall := gloB_ok KX NS (EX 6 (f := ex6) rfl)
    a_is_integer := (ga K "is_integer")
    fd_is_integer := fd1
    F_is_integer := F1
    g_is_integer := gloB_ok KX NS (EX 7 (f := ex7) rfl)
    a_is_within := (ga K "is_within")
    fd_is_within := fd2
    F_is_within := F2
    g_is_within := gloB_ok KX NS (EX 8 (f := ex8) rfl)
    a_Words___init__ := (ma K (ga K "Words") "__init__")
    fd_Words___init__ := fd3
    F_Words___init__ := F3
    a_Words_peek := (ma K (ga K "Words") "peek")
    fd_Words_peek := fd4
    F_Words_peek := F4
    a_Words_ask := (ma K (ga K "Words") "ask")
    fd_Words_ask := fd5
    F_Words_ask := F5
    a_Words_read_if := (ma K (ga K "Words") "read_if")
    fd_Words_read_if := fd6
    F_Words_read_if := F6
    a_Words_some := (ma K (ga K "Words") "some")
    fd_Words_some := fd7
    F_Words_some := F7
    a_Words_close := (ma K (ga K "Words") "close")
    fd_Words_close := fd8
    F_Words_close := F8
    a_Fault___eq__ := (ma K (ga K "Fault") "__eq__")
    fd_Fault___eq__ := fd9
    F_Fault___eq__ := F9
    a_Fault___str__ := (ma K (ga K "Fault") "__str__")
    fd_Fault___str__ := fd10
    F_Fault___str__ := F10
    a_Loses___eq__ := (ma K (ga K "Loses") "__eq__")
    fd_Loses___eq__ := fd11
    F_Loses___eq__ := F11
    a_Loses___str__ := (ma K (ga K "Loses") "__str__")
    fd_Loses___str__ := fd12
    F_Loses___str__ := F12
    a_Doubles___eq__ := (ma K (ga K "Doubles") "__eq__")
    fd_Doubles___eq__ := fd13
    F_Doubles___eq__ := F13
    a_Doubles___str__ := (ma K (ga K "Doubles") "__str__")
    fd_Doubles___str__ := fd14
    F_Doubles___str__ := F14
    a_Overtakes___init__ := (ma K (ga K "Overtakes") "__init__")
    fd_Overtakes___init__ := fd15
    F_Overtakes___init__ := F15
    a_Overtakes___eq__ := (ma K (ga K "Overtakes") "__eq__")
    fd_Overtakes___eq__ := fd16
    F_Overtakes___eq__ := F16
    a_Overtakes___str__ := (ma K (ga K "Overtakes") "__str__")
    fd_Overtakes___str__ := fd17
    F_Overtakes___str__ := F17
    a_is_kind := (ga K "is_kind")
    fd_is_kind := fd18
    F_is_kind := F18
    g_is_kind := gloB_ok KX NS (EX 9 (f := ex9) rfl)
    a_told_faults := (ga K "told_faults")
    fd_told_faults := fd19
    F_told_faults := F19
    g_told_faults := gloB_ok KX NS (EX 10 (f := ex10) rfl)
    a_Channel___init__ := (ma K (ga K "Channel") "__init__")
    fd_Channel___init__ := fd20
    F_Channel___init__ := F20
    a_Channel_loses := (pgA K (ga K "Channel") "loses")
    fd_Channel_loses := fd21
    F_Channel_loses := F21
    a_Channel_doubles := (pgA K (ga K "Channel") "doubles")
    fd_Channel_doubles := fd22
    F_Channel_doubles := F22
    a_Channel_overtakes := (pgA K (ga K "Channel") "overtakes")
    fd_Channel_overtakes := fd23
    F_Channel_overtakes := F23
    a_Channel___contains__ := (ma K (ga K "Channel") "__contains__")
    fd_Channel___contains__ := fd24
    F_Channel___contains__ := F24
    a_Channel___sub__ := (ma K (ga K "Channel") "__sub__")
    fd_Channel___sub__ := fd25
    F_Channel___sub__ := F25
    a_Channel___eq__ := (ma K (ga K "Channel") "__eq__")
    fd_Channel___eq__ := fd26
    F_Channel___eq__ := F26
    a_Channel___str__ := (ma K (ga K "Channel") "__str__")
    fd_Channel___str__ := fd27
    F_Channel___str__ := F27
    a_need_channel := (ga K "need_channel")
    fd_need_channel := fd28
    F_need_channel := F28
    g_need_channel := gloB_ok KX NS (EX 11 (f := ex11) rfl)
    a__law_pen := (ga K "_law_pen")
    fd__law_pen := fd29
    F__law_pen := F29
    g__law_pen := gloB_ok KX NS (EX 12 (f := ex12) rfl)
    a__law_draw := (ga K "_law_draw")
    fd__law_draw := fd30
    F__law_draw := F30
    g__law_draw := gloB_ok KX NS (EX 13 (f := ex13) rfl)
    a__law_pick := (ga K "_law_pick")
    fd__law_pick := fd31
    F__law_pick := F31
    g__law_pick := gloB_ok KX NS (EX 14 (f := ex14) rfl)
    a__law_four := (ga K "_law_four")
    fd__law_four := fd32
    F__law_four := F32
    g__law_four := gloB_ok KX NS (EX 15 (f := ex15) rfl)
    a__law_faults := (ga K "_law_faults")
    fd__law_faults := fd33
    F__law_faults := F33
    g__law_faults := gloB_ok KX NS (EX 16 (f := ex16) rfl)
    a__law_channel := (ga K "_law_channel")
    fd__law_channel := fd34
    F__law_channel := F34
    g__law_channel := gloB_ok KX NS (EX 17 (f := ex17) rfl)
    a__law_told := (ga K "_law_told")
    fd__law_told := fd35
    F__law_told := F35
    g__law_told := gloB_ok KX NS (EX 18 (f := ex18) rfl)
    a__law_made_right := (ga K "_law_made_right")
    fd__law_made_right := fd36
    F__law_made_right := F36
    g__law_made_right := gloB_ok KX NS (EX 19 (f := ex19) rfl)
    a__law_refused_right := (ga K "_law_refused_right")
    fd__law_refused_right := fd37
    F__law_refused_right := F37
    g__law_refused_right := gloB_ok KX NS (EX 20 (f := ex20) rfl)
    c__law_refused_right := (cdA K (ga K "_law_refused_right"))
    P__law_refused_right := (He.tabOf K (cdA K (ga K "_law_refused_right")))
    C__law_refused_right := FunD.funC F37
    a_law := (ga K "law")
    fd_law := fd38
    F_law := F38
    g_law := gloB_ok KX NS (EX 21 (f := ex21) rfl)
    a_Words_one_of := (ma K (ga K "Words") "one_of")
    fd_Words_one_of := fd39
    F_Words_one_of := F39
    a_Words_integer := (ma K (ga K "Words") "integer")
    fd_Words_integer := fd40
    F_Words_integer := F40
    a_made_channel := (ga K "made_channel")
    fd_made_channel := fd41
    F_made_channel := F41
    g_made_channel := gloB_ok KX NS (EX 22 (f := ex22) rfl)
    a_Channel___and__ := (ma K (ga K "Channel") "__and__")
    fd_Channel___and__ := fd42
    F_Channel___and__ := F42
    a_Channel___or__ := (ma K (ga K "Channel") "__or__")
    fd_Channel___or__ := fd43
    F_Channel___or__ := F43
    a_channel_from := (ga K "channel_from")
    fd_channel_from := fd44
    F_channel_from := F44
    g_channel_from := gloB_ok KX NS (EX 23 (f := ex23) rfl)
    a_Channel___add__ := (ma K (ga K "Channel") "__add__")
    fd_Channel___add__ := fd45
    F_Channel___add__ := F45
    a_Channel_read := (cmA K (ga K "Channel") "read")
    fd_Channel_read := fd46
    F_Channel_read := F46
    a__law_heard := (ga K "_law_heard")
    fd__law_heard := fd47
    F__law_heard := F47
    g__law_heard := gloB_ok KX NS (EX 24 (f := ex24) rfl)
    a_Channel___iter__ := (ma K (ga K "Channel") "__iter__")
    fd_Channel___iter__ := fd48
    F_Channel___iter__ := F48
    b_isinstance := freeB_ok KX NS (EX 25 (f := ex25) rfl)
    b_int := freeB_ok KX NS (EX 26 (f := ex26) rfl)
    b_bool := freeB_ok KX NS (EX 27 (f := ex27) rfl)
    b_str := freeB_ok KX NS (EX 28 (f := ex28) rfl)
    b_len := freeB_ok KX NS (EX 29 (f := ex29) rfl)
    b_all := freeB_ok KX NS (EX 30 (f := ex30) rfl)
    b_set := freeB_ok KX NS (EX 31 (f := ex31) rfl)
    b_tuple := freeB_ok KX NS (EX 32 (f := ex32) rfl)
    b_range := freeB_ok KX NS (EX 33 (f := ex33) rfl)
    b_sum := freeB_ok KX NS (EX 34 (f := ex34) rfl)
    b_iter := freeB_ok KX NS (EX 35 (f := ex35) rfl)
    b_list := freeB_ok KX NS (EX 36 (f := ex36) rfl)
    b_abs := freeB_ok KX NS (EX 37 (f := ex37) rfl)
    b_ValueError := freeB_ok KX NS (EX 38 (f := ex38) rfl)
    b_repr := freeB_ok KX NS (EX 39 (f := ex39) rfl)
    b_min := freeB_ok KX NS (EX 40 (f := ex40) rfl)
    b_max := freeB_ok KX NS (EX 41 (f := ex41) rfl)
    fl_LinkError := rfl
    gc_LinkError := gloB_ok KX NS (EX 42 (f := ex42) rfl)
    gg_LinkError := gloB_ok KX NS (EX 43 (f := ex43) rfl)
    xf_LinkError := XC 0 rfl
    fl_BadChannel := rfl
    gc_BadChannel := gloB_ok KX NS (EX 44 (f := ex44) rfl)
    gg_BadChannel := gloB_ok KX NS (EX 45 (f := ex45) rfl)
    xf_BadChannel := XC 1 rfl
    fl_BadText := rfl
    gc_BadText := gloB_ok KX NS (EX 46 (f := ex46) rfl)
    gg_BadText := gloB_ok KX NS (EX 47 (f := ex47) rfl)
    xf_BadText := XC 2 rfl
    fl_Words := rfl
    gc_Words := gloB_ok KX NS (EX 48 (f := ex48) rfl)
    gg_Words := gloB_ok KX NS (EX 49 (f := ex49) rfl)
    cl_Words := clsB_ok (EX 50 (f := ex50) rfl)
    cf_Words := clsFB_ok (EX 51 (f := ex51) rfl)
    mk_Words := mkB_ok (EX 52 (f := ex52) rfl)
    fl_Fault := rfl
    gc_Fault := gloB_ok KX NS (EX 53 (f := ex53) rfl)
    gg_Fault := gloB_ok KX NS (EX 54 (f := ex54) rfl)
    cl_Fault := clsB_ok (EX 55 (f := ex55) rfl)
    cf_Fault := clsFB_ok (EX 56 (f := ex56) rfl)
    fl_Loses := rfl
    gc_Loses := gloB_ok KX NS (EX 57 (f := ex57) rfl)
    gg_Loses := gloB_ok KX NS (EX 58 (f := ex58) rfl)
    cl_Loses := clsB_ok (EX 59 (f := ex59) rfl)
    cf_Loses := clsFB_ok (EX 60 (f := ex60) rfl)
    fl_Doubles := rfl
    gc_Doubles := gloB_ok KX NS (EX 61 (f := ex61) rfl)
    gg_Doubles := gloB_ok KX NS (EX 62 (f := ex62) rfl)
    cl_Doubles := clsB_ok (EX 63 (f := ex63) rfl)
    cf_Doubles := clsFB_ok (EX 64 (f := ex64) rfl)
    fl_Overtakes := rfl
    gc_Overtakes := gloB_ok KX NS (EX 65 (f := ex65) rfl)
    gg_Overtakes := gloB_ok KX NS (EX 66 (f := ex66) rfl)
    cl_Overtakes := clsB_ok (EX 67 (f := ex67) rfl)
    cf_Overtakes := clsFB_ok (EX 68 (f := ex68) rfl)
    mk_Overtakes := mkB_ok (EX 69 (f := ex69) rfl)
    fl_Channel := rfl
    gc_Channel := gloB_ok KX NS (EX 70 (f := ex70) rfl)
    gg_Channel := gloB_ok KX NS (EX 71 (f := ex71) rfl)
    cl_Channel := clsB_ok (EX 72 (f := ex72) rfl)
    cf_Channel := clsFB_ok (EX 73 (f := ex73) rfl)
    mk_Channel := mkB_ok (EX 74 (f := ex74) rfl)
    a_BadChannel_i := (ma K (ga K "BadChannel") "__init__")
    fd_BadChannel_i := fd49
    F_BadChannel_i := F49
    et_BadChannel := dk (EX 75 (f := ex75) rfl)
    a_BadText_i := (ma K (ga K "BadText") "__init__")
    fd_BadText_i := fd50
    F_BadText_i := F50
    et_BadText := dk (EX 76 (f := ex76) rfl)
    ex_BadChannel := exCB_ok (EX 77 (f := ex77) rfl)
    ei_BadChannel := He.eqO_ok (EX 78 (f := ex78) rfl)
    ex_BadText := exCB_ok (EX 79 (f := ex79) rfl)
    ei_BadText := He.eqO_ok (EX 80 (f := ex80) rfl)
    p_Channel_doubles := (ma K (ga K "Channel") "doubles")
    po_Channel_doubles := propB_ok (EX 81 (f := ex81) rfl)
    p_Channel_loses := (ma K (ga K "Channel") "loses")
    po_Channel_loses := propB_ok (EX 82 (f := ex82) rfl)
    p_Channel_overtakes := (ma K (ga K "Channel") "overtakes")
    po_Channel_overtakes := propB_ok (EX 83 (f := ex83) rfl)
    cr_Channel := crB_ok (EX 84 (f := ex84) rfl)
    cv_Channel_MOST := cvB_ok (EX 85 (f := ex85) rfl)
    co_Doubles_ORDER := conB'_ok (EX 86 (f := ex86) rfl)
    co_Loses_ORDER := conB'_ok (EX 87 (f := ex87) rfl)
    co_Overtakes_ORDER := conB'_ok (EX 88 (f := ex88) rfl)
    mk0_Doubles := mk0B_ok (EX 89 (f := ex89) rfl)
    mk0_Loses := mk0B_ok (EX 90 (f := ex90) rfl)
    me_Words_ask := methB_ok (EX 91 (f := ex91) rfl)
    me_Words_close := methB_ok (EX 92 (f := ex92) rfl)
    me_Words_integer := methB_ok (EX 93 (f := ex93) rfl)
    me_Words_one_of := methB_ok (EX 94 (f := ex94) rfl)
    me_Words_peek := methB_ok (EX 95 (f := ex95) rfl)
    me_Words_read_if := methB_ok (EX 96 (f := ex96) rfl)
    df_Channel___contains__ := He.eqO_ok (EX 97 (f := ex97) rfl)
    isf_Channel___contains__ := (EX 98 (f := ex98) rfl)
    df_Channel___eq__ := He.eqO_ok (EX 99 (f := ex99) rfl)
    isf_Channel___eq__ := (EX 100 (f := ex100) rfl)
    df_Channel___iter__ := He.eqO_ok (EX 101 (f := ex101) rfl)
    isf_Channel___iter__ := (EX 102 (f := ex102) rfl)
    df_Channel___or__ := He.eqO_ok (EX 103 (f := ex103) rfl)
    isf_Channel___or__ := (EX 104 (f := ex104) rfl)
    df_Channel___str__ := He.eqO_ok (EX 105 (f := ex105) rfl)
    isf_Channel___str__ := (EX 106 (f := ex106) rfl)
    df_Doubles___eq__ := He.eqO_ok (EX 107 (f := ex107) rfl)
    isf_Doubles___eq__ := (EX 108 (f := ex108) rfl)
    df_Doubles___str__ := He.eqO_ok (EX 109 (f := ex109) rfl)
    isf_Doubles___str__ := (EX 110 (f := ex110) rfl)
    df_Fault___eq__ := He.eqO_ok (EX 111 (f := ex111) rfl)
    isf_Fault___eq__ := (EX 112 (f := ex112) rfl)
    df_Fault___str__ := He.eqO_ok (EX 113 (f := ex113) rfl)
    isf_Fault___str__ := (EX 114 (f := ex114) rfl)
    df_Loses___eq__ := He.eqO_ok (EX 115 (f := ex115) rfl)
    isf_Loses___eq__ := (EX 116 (f := ex116) rfl)
    df_Loses___str__ := He.eqO_ok (EX 117 (f := ex117) rfl)
    isf_Loses___str__ := (EX 118 (f := ex118) rfl)
    df_Overtakes___eq__ := He.eqO_ok (EX 119 (f := ex119) rfl)
    isf_Overtakes___eq__ := (EX 120 (f := ex120) rfl)
    df_Overtakes___str__ := He.eqO_ok (EX 121 (f := ex121) rfl)
    isf_Overtakes___str__ := (EX 122 (f := ex122) rfl)
    ne_Channel := He.eqO_ok (EX 123 (f := ex123) rfl)
    ne_Doubles := He.eqO_ok (EX 124 (f := ex124) rfl)
    ne_Fault := He.eqO_ok (EX 125 (f := ex125) rfl)
    ne_Loses := He.eqO_ok (EX 126 (f := ex126) rfl)
    ne_Overtakes := He.eqO_ok (EX 127 (f := ex127) rfl)
    op_or := opLB_ok (EX 128 (f := ex128) rfl)
    k_MOST_OVERTAKEN := conB_ok KX NS (EX 129 (f := ex129) rfl) }, rfl, rfl, rfl, trivial⟩
end Lw
set_option Elab.async false
set_option linter.all false
set_option maxRecDepth 100000
set_option maxHeartbeats 0
namespace Lw
open PySem PySem.Spec PyProof.Rows L2 Mp
abbrev RR : PySem.W.OpenRow := PySem.W.OpenLaw.row PySem.Challenge.rw_markedpair_k14_channels_made_and_refused
def loo : List Str := (["_wall", "is_integer", "is_within", "LinkError", "BadChannel", "BadText", "Words", "MOST_OVERTAKEN", "Fault", "Loses", "Doubles", "Overtakes", "is_kind", "told_faults", "made_channel", "Channel", "need_channel", "channel_from", "_law_pen", "_law_draw", "_law_pick", "_law_four", "_law_faults", "_law_channel", "_law_told", "_law_heard", "_law_made_right", "_law_refused_right"] : List Str)
theorem ob_eq (s : PySem.W.SharedT) : ob s = hk.obs s.abs := obT_eq s
theorem top_run (w : World) : HandSHeadRun.RunEq RR (PySem.W.view RR.prog [33]) hk ob 40000 loo w := by
  intro os
  kernel_rfl
end Lw
set_option Elab.async false
set_option linter.all false
set_option maxRecDepth 100000
set_option maxHeartbeats 0
namespace Lw
open PySem PySem.Spec PyProof.Rows L2 Mp
theorem ct_ok {w : World} {h : Heap} {K : PySem.W.Frag} (KX : K.In h) (c : SaysT exB fnL tfL dsL w h K) : CtOk h K (tfL.map fun p => ctP K (p K)) := by
  refine ⟨fun p hp => ?_, fun p hp => ?_, fun p hp => ?_⟩ <;> (obtain ⟨q, hq, rfl⟩ := List.mem_map.mp hp)
  · exact c.m.emp q hq
  · exact c.m.out q hq
  · exact PySem.W.codeHd_of_K KX (c.m.hd q hq)
end Lw
open PySem PySem.W PySem.Calls PyProof.Rows
set_option maxRecDepth 100000 in
set_option maxHeartbeats 8000000 in
theorem PySem.Challenge.cw_markedpair_k14_channels_made_and_refused_holds : PySem.Challenge.rw_markedpair_k14_channels_made_and_refused.Holds := by
  w_on; o_law
  refine HandSHeadRun.head_any (r := OpenLaw.row PySem.Challenge.rw_markedpair_k14_channels_made_and_refused) (q := view Lw.RR.prog [33]) (H := Lw.hk) (ob := Lw.ob) (M := 40000) (loose := Lw.loo) (d := HandSHeadRun.topDef Lw.RR.prog 33) (kwd := []) Lw.ob_eq
    (by kernel_rfl) (fun s => by kernel_rfl) Lw.top_run (by kernel_rfl) (by kernel_rfl) (by kernel_rfl) (by rfl) (by first | assumption | decide +kernel) (by decide +kernel) ⟨rfl, rfl, rfl, rfl, rfl, by decide +kernel⟩ ?hw ?hc
  case hw => w_witness2
  case hc =>
    refine Mp.law_walk (l := PySem.Challenge.rw_markedpair_k14_channels_made_and_refused) (n := 63) (k := 14) rfl (by decide) (by kernel_rfl) ⟨⟨rfl, by decide, by decide⟩, rfl⟩ ?_
    intro w mg fa h sa sn Y NS hfa hlen hbits
    obtain ⟨K, KX, c⟩ := Y
    obtain ⟨T, ea, ec0, ep0, _⟩ := Lw.tp_ok KX NS c
    have hfa : mg ("law" : PySem.Str) = some (.ref fa) := by
      have e : (HandSHeadRun.topDef Lw.RR.prog 33).name = ("law" : PySem.Str) := by kernel_rfl
      rw [← e]
      exact hfa
    have e2 := T.g_law
    rw [hfa] at e2
    cases e2
    let TT : List (Addr × PySem.Str) := [(T.P__law_refused_right, (("_law_refused_right" : Str) ++ ".<locals>." ++ "<lambda>"))]
    refine ⟨K, Mp.giOf (Lw.gbK K) TT sa sn, (Mp.defM 1 [] (Lw.v_law sa sn)), Lw.tfL.map fun p => Mp.ctP K (p K), KX, Lw.ct_ok KX c, ?_, rfl, fun base hb nb tb => ?_, Lw.pure_law sa sn hlen hbits⟩
    · intro p hp
      replace hp : p ∈ TT := hp
      simp only [TT, List.mem_cons, List.not_mem_nil, or_false] at hp
      subst hp
      · exact List.mem_map.mpr ⟨_, List.mem_map.mpr ⟨_, List.mem_of_getElem? (i := 0) rfl, rfl⟩, ep0.symm⟩
    · exact Lw.Tp.r0_law (G := Mp.giOf (Lw.gbK K) TT sa sn) T ({
        tb__law_refused_right := by
          have z := tb _ (List.mem_map.mpr ⟨_, List.mem_of_getElem? (i := 0) rfl, rfl⟩)
          rw [ec0, ep0]; exact z
        hm__law_refused_right := List.mem_of_getElem? (i := 0) rfl
        hu__law_refused_right := fun p hp e => by
          replace hp : p ∈ TT := hp
          simp only [TT, List.mem_cons, List.not_mem_nil, or_false] at hp
          subst hp; rfl }) (Mp.giOf_sc _ _ _ _)
